package change

import (
	"errors"
	"strconv"

	"flagstone/api"
)

// What does not hold of a path, so that nothing is changed.
var (
	errArg    = errors.New("a part that is no name")
	errNone   = errors.New("nothing there, or nobody names it any more")
	errExists = errors.New("a name that is taken")
	errNotDir = errors.New("no directory")
	errIsDir  = errors.New("a directory")
	errFull   = errors.New("a directory that has names")
	errAccess = errors.New("not allowed")
	errLong   = errors.New("a text that is too long")
	errLinks  = errors.New("too many names")
	errInto   = errors.New("a directory into itself")
)

// below is what a layer below told, by its number.
type below api.Errno

// unmet is what does not hold, and of which path.
type unmet struct {
	path  string
	cause error
}

func (b below) Error() string { return "error " + strconv.Itoa(int(b)) }

func (u unmet) Error() string { return u.path + ": " + u.cause.Error() }

func (u unmet) Unwrap() error { return u.cause }

// number tells an error of this package as the callers know it.
func number(err error) api.Errno {
	var b below
	switch {
	case errors.As(err, &b):
		return api.Errno(b)
	case errors.Is(err, errArg):
		return api.ErrArg
	case errors.Is(err, errNone):
		return api.ErrNone
	case errors.Is(err, errExists):
		return api.ErrExists
	case errors.Is(err, errNotDir):
		return api.ErrNotDir
	case errors.Is(err, errIsDir):
		return api.ErrIsDir
	case errors.Is(err, errFull):
		return api.ErrFull
	case errors.Is(err, errAccess):
		return api.ErrAccess
	case errors.Is(err, errLong):
		return api.ErrLong
	case errors.Is(err, errLinks):
		return api.ErrLinks
	case errors.Is(err, errInto):
		return api.ErrInto
	}
	return api.OK
}
