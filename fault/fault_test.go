package fault_test

import (
	"errors"
	"fmt"
	"slices"
	"strings"
	"testing"

	"frankpledge/api"
	"frankpledge/fault"
)

var errPlain = errors.New("plain")

// many wraps several errors at once.
type many struct{ in []error }

func (m many) Error() string   { return "many" }
func (m many) Unwrap() []error { return m.in }

func TestNewAndWrap(t *testing.T) {
	if fault.New("a", api.OK) != nil {
		t.Error("P1.1: New of OK")
	}
	if fault.Wrap("a", nil) != nil {
		t.Error("P1.1: Wrap of nil")
	}
	var f *fault.Fault
	if err := fault.New("a", api.ErrFull); !errors.As(err, &f) || f.Op != "a" || f.Err != error(api.ErrFull) {
		t.Errorf("P1.1: New: %v", err)
	}
	if err := fault.Wrap("b", errPlain); !errors.As(err, &f) || f.Op != "b" || f.Err != errPlain || f.Unwrap() != errPlain {
		t.Errorf("P1.1: Wrap: %v", err)
	}
	if err := fault.Wrap("b", api.OK); err == nil || fault.Code(err) != api.OK {
		t.Error("P1.1: Wrap of an error that is OK")
	}
	if (&fault.Fault{Op: "c"}).Unwrap() != nil {
		t.Error("P1.1: Unwrap of a Fault around nothing")
	}
}

func TestError(t *testing.T) {
	for _, c := range []struct {
		err  error
		want string
	}{
		{fault.New("a", api.ErrNone), "a: not there"},
		{fault.Wrap("a", fault.New("b", api.ErrArg)), "a: b: an argument that may not be"},
		{fault.Wrap("", errPlain), ": plain"},
		{fault.Wrap("a", fmt.Errorf("in %w", fault.New("b", api.ErrNone))), "a: in b: not there"},
		{&fault.Fault{Op: "a"}, "a: "},
		{fault.Wrap("x", &fault.Fault{Op: "a"}), "x: a: "},
	} {
		if got := c.err.Error(); got != c.want {
			t.Errorf("P1.1: Error: %q, not %q", got, c.want)
		}
	}
}

func TestCode(t *testing.T) {
	for i, c := range []struct {
		err  error
		want api.Errno
	}{
		{nil, api.OK},
		{errPlain, api.ErrOther},
		{api.ErrStale, api.ErrStale},
		{fault.Wrap("a", fault.New("b", api.ErrNone)), api.ErrNone},
		{fault.Wrap("a", errPlain), api.ErrOther},
		{&fault.Fault{Op: "a"}, api.ErrOther},
		{many{[]error{errPlain, fault.New("a", api.ErrCut), api.ErrSum}}, api.ErrCut},
		{fault.New("a", 77), 77},
	} {
		if got := fault.Code(c.err); got != c.want {
			t.Errorf("P1.1: Code %d: %d, not %d", i, int(got), int(c.want))
		}
	}
}

func TestPath(t *testing.T) {
	for i, c := range []struct {
		err  error
		want []string
	}{
		{nil, nil},
		{errPlain, nil},
		{api.ErrNone, nil},
		{fault.Wrap("a", fault.New("b", api.ErrNone)), []string{"a", "b"}},
		{fmt.Errorf("out %w", fault.Wrap("a", fmt.Errorf("in %w", fault.New("", api.ErrNone)))), []string{"a", ""}},
		{many{[]error{errPlain, fault.New("x", api.ErrCut), fault.New("y", api.ErrSum)}}, []string{"x"}},
	} {
		if got := fault.Path(c.err); !slices.Equal(got, c.want) {
			t.Errorf("P1.1: Path %d: %q, not %q", i, got, c.want)
		}
	}
}

func TestHas(t *testing.T) {
	err := fault.Wrap("a", fault.New("b", api.ErrNone))
	if !fault.Has(err, api.ErrNone) || fault.Has(err, api.ErrFull) || fault.Has(err, api.OK) {
		t.Error("P1.1: Has of a Fault")
	}
	if fault.Has(nil, api.OK) || fault.Has(nil, api.ErrNone) || fault.Has(errPlain, api.ErrOther) {
		t.Error("P1.1: Has of nil, of another error")
	}
	both := many{[]error{fault.New("a", api.ErrCut), fault.New("b", api.ErrSum)}}
	if !fault.Has(both, api.ErrCut) || !fault.Has(both, api.ErrSum) {
		t.Error("P1.1: Has asks all, not the first alone")
	}
}

func TestDeep(t *testing.T) {
	err := fault.New("x", api.ErrLong)
	for range 5000 {
		err = fault.Wrap("x", err)
	}
	if len(fault.Path(err)) != 5001 || fault.Code(err) != api.ErrLong || !fault.Has(err, api.ErrLong) {
		t.Error("P1.1: five thousand deep")
	}
	if !strings.HasPrefix(err.Error(), strings.Repeat("x: ", 5001)) {
		t.Error("P1.1: Error, five thousand deep")
	}
}
