package walk

import (
	"errors"
	"strconv"

	"flagstone/api"
)

// fault is what went wrong, by its number.
type fault api.Errno

// lost is what went wrong on the way, at a part.
type lost struct {
	part  string
	cause error
}

func (f fault) Error() string { return "error " + strconv.Itoa(int(f)) }

func (l lost) Error() string { return l.part + ": " + l.cause.Error() }

func (l lost) Unwrap() error { return l.cause }

// number tells an error of this package as the callers know it.
func number(err error) api.Errno {
	var f fault
	if errors.As(err, &f) {
		return api.Errno(f)
	}
	return api.OK
}
