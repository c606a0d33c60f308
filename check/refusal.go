package check

import (
	"errors"
	"strconv"

	"levelling/api"
)

// fault is an error's number, as an error.
type fault api.Errno

func (f fault) Error() string {
	return "error " + strconv.Itoa(int(f))
}

// refusal is a fault, and the part of what is asked that has it.
type refusal struct {
	part  string
	cause error
}

func (r refusal) Error() string {
	return r.part + ": " + r.cause.Error()
}

func (r refusal) Unwrap() error {
	return r.cause
}

// refuse is the refusal of that part, for that error.
func refuse(part string, err api.Errno) error {
	return refusal{part, fault(err)}
}

// number is the number of what is wrong, with whichever part; OK, if nothing is.
func number(err error) api.Errno {
	var f fault
	if errors.As(err, &f) {
		return api.Errno(f)
	}
	return api.OK
}
