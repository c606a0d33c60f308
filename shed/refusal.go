package shed

import (
	"errors"
	"strconv"

	"levelling/api"
)

// What may go wrong, whatever it is wrapped in.
var (
	errArg   = errors.New("there is no such factor, or no such line")
	errSize  = errors.New("the row has not as many entries as there are columns")
	errRange = errors.New("a number is too great or too small")
	errFew   = errors.New("there is no row left")
	errFull  = errors.New("there would be too many rotations")
	errShed  = errors.New("what is taken out is not less than what is there")
)

// refusal is what went wrong at a column.
type refusal struct {
	column int
	cause  error
}

func (r refusal) Error() string {
	return "column " + strconv.Itoa(r.column) + ": " + r.cause.Error()
}

func (r refusal) Unwrap() error {
	return r.cause
}

// number is the number of what went wrong, at whichever column; OK, if nothing did.
func number(err error) api.Errno {
	switch {
	case err == nil:
		return api.OK
	case errors.Is(err, errSize):
		return api.ErrSize
	case errors.Is(err, errRange):
		return api.ErrRange
	case errors.Is(err, errFew):
		return api.ErrFew
	case errors.Is(err, errFull):
		return api.ErrFull
	case errors.Is(err, errShed):
		return api.ErrShed
	}
	return api.ErrArg
}
