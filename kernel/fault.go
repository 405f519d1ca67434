package kernel

import (
	"errors"
	"strconv"

	"flagstone/api"
)

// fault is what went wrong, by its number.
type fault api.Errno

// failed is what went wrong, and with what: a descriptor, or a path.
type failed struct {
	with  string
	cause error
}

func (f fault) Error() string { return "error " + strconv.Itoa(int(f)) }

func (f failed) Error() string { return f.with + ": " + f.cause.Error() }

func (f failed) Unwrap() error { return f.cause }

// wrong tells what went wrong with a path, or a descriptor, if anything did.
func wrong(with string, e api.Errno) error {
	if e == api.OK {
		return nil
	}
	return failed{with, fault(e)}
}

// wrongFd tells what went wrong with the descriptor fd, if anything did.
func wrongFd(fd int, e api.Errno) error {
	return wrong("descriptor "+strconv.Itoa(fd), e)
}

// number tells an error of this package as the callers know it.
func number(err error) api.Errno {
	var f fault
	if errors.As(err, &f) {
		return api.Errno(f)
	}
	return api.OK
}
