package script

import (
	"errors"
	"strconv"

	"levelling/api"
)

// errWord is what is wrong with a line, wherever it stands.
var errWord = errors.New("a word may not stand there, or is missing")

// wrongLine is what is wrong with a line of a text, and its number.
type wrongLine struct {
	number int
	cause  error
}

func (w wrongLine) Error() string {
	return "line " + strconv.Itoa(w.number) + ": " + w.cause.Error()
}

func (w wrongLine) Unwrap() error {
	return w.cause
}

// lineOf is the number of the line that is wrong; 0, if none is.
func lineOf(err error) int {
	var w wrongLine
	if errors.As(err, &w) {
		return w.number
	}
	return 0
}

// numberOf is the number of what is wrong, with whichever line; OK, if nothing is.
func numberOf(err error) api.Errno {
	if errors.Is(err, errWord) {
		return api.ErrLine
	}
	return api.OK
}
