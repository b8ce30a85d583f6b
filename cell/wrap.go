package cell

import (
	"errors"

	"reedbed/api"
)

// fault is an error of a cause, which is never OK.
type fault struct {
	cause api.Errno
	note  string
}

// Error tells the cause, and the note, if it isn't empty.
func (f fault) Error() string {
	if f.note == "" {
		return f.cause.Error()
	}
	return f.cause.Error() + ": " + f.note
}

// Unwrap is the cause: errors.Is finds it by this.
func (f fault) Unwrap() error {
	return f.cause
}

// Wrap is an error of a cause; of OK there is none.
func Wrap(cause api.Errno, note string) error {
	if cause == api.OK {
		return nil
	}
	return fault{cause, note}
}

// Unwrap are the cause and the note of an error of Wrap, or an Errno itself;
// false: it is neither, and wraps neither.
func Unwrap(err error) (api.Errno, string, bool) {
	// An error of another package may say that it is either, and hand none over:
	// then f has no cause, or cause and same stay apart.
	var f fault
	if find(err, &f) && f.cause != api.OK {
		return f.cause, f.note, true
	}
	cause, same := api.OK, api.ErrNil
	if find(err, &cause) && find(err, &same) && cause == same {
		return cause, "", true
	}
	return api.OK, "", false
}

// find looks for the first error of a target's type in all that an error wraps:
// is there one?
func find(err error, target any) (ok bool) {
	// An error of another package is asked by its own methods, which may panic.
	defer func() { _ = recover() }()
	return errors.As(err, target)
}
