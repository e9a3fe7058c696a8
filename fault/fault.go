// Package fault wraps errors, so that they tell where they came up: see doc/01-fault.md.
package fault

import (
	"errors"

	"frankpledge/api"
)

// deepest is more than the errors that the document lets lie in one another. A way that is longer may have no end at all: a Fault can be made to wrap itself.
const deepest = 1 << 17

// Fault is an error that tells where Err came up.
type Fault struct {
	Op  string
	Err error
}

// Error tells Op, and what Err tells.
func (f *Fault) Error() string {
	if !ends(f) {
		return f.Op + ": "
	}
	// A loop, not a call of the inner Fault's own Error: that would copy the text once a level.
	var text []byte
	for {
		text = append(text, f.Op...)
		text = append(text, ": "...)
		inner := itself(f.Err)
		if inner == nil {
			return string(append(text, words(f.Err)...))
		}
		f = inner
	}
}

// Unwrap tells what f is around.
func (f *Fault) Unwrap() error { return f.Err }

// New makes a Fault of op around code; nil of OK.
func New(op string, code api.Errno) error {
	if code == api.OK {
		return nil
	}
	return &Fault{Op: op, Err: code}
}

// Wrap makes a Fault of op around err; nil of nil.
func Wrap(op string, err error) error {
	if err == nil {
		return nil
	}
	return &Fault{Op: op, Err: err}
}

// Code tells the first Errno in err; ErrOther, if there is none.
func Code(err error) api.Errno {
	if err == nil {
		return api.OK
	}
	if code, found := firstErrno(err); found {
		return code
	}
	return api.ErrOther
}

// Path tells the Ops of the Faults in err, the outermost first.
func Path(err error) []string {
	if !ends(err) {
		return nil
	}
	var ops []string
	// Somebody else's As may tell Faults without end, though the way has one.
	for range deepest {
		f := firstFault(err)
		if f == nil {
			break
		}
		ops = append(ops, f.Op)
		err = f.Err
	}
	return ops
}

// Has tells whether code is in err.
func Has(err error, code api.Errno) bool { return ends(err) && is(err, code) }

// What follows asks errors that may be anybody's: their methods may panic, and then there is nothing to be found.

// ends tells whether the way from err on comes to an end.
func ends(err error) (end bool) {
	defer func() {
		if recover() != nil {
			end = false
		}
	}()
	for range deepest {
		if err == nil {
			return true
		}
		err = errors.Unwrap(err)
	}
	return false
}

// firstErrno tells the first Errno in err; false, if there is none.
func firstErrno(err error) (code api.Errno, found bool) {
	defer func() {
		if recover() != nil {
			code, found = api.OK, false
		}
	}()
	found = ends(err) && errors.As(err, &code)
	return code, found
}

// firstFault tells the first Fault in err; nil, if there is none.
func firstFault(err error) (f *Fault) {
	defer func() {
		if recover() != nil {
			f = nil
		}
	}()
	if !errors.As(err, &f) {
		return nil
	}
	return f
}

// is is errors.Is.
func is(err error, code api.Errno) (has bool) {
	defer func() {
		if recover() != nil {
			has = false
		}
	}()
	return errors.Is(err, code)
}

// itself tells the Fault that err is, not one that it wraps; nil, if it is none.
func itself(err error) *Fault {
	f := firstFault(err)
	if f == nil || err != error(f) {
		return nil
	}
	return f
}

// words tells what err tells, nothing of nil, and nothing if that panics.
func words(err error) (text string) {
	if err == nil {
		return ""
	}
	defer func() {
		if recover() != nil {
			text = ""
		}
	}()
	return err.Error()
}
