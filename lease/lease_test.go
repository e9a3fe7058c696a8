package lease_test

import (
	"math"
	"testing"

	"frankpledge/api"
	"frankpledge/lease"
)

var (
	first = api.Stamp{T: 3, Node: 1, N: 4}
	later = api.Stamp{T: 8, Node: 2, N: 5}
)

// entry is one that is not gone, with an Over.
func entry() lease.Entry {
	return lease.Entry{Seen: 20, Card: api.Card{Key: api.Key{App: "a", ID: "b"}, Status: api.Up, Over: api.Out, Lease: 30, Stamp: first}}
}

func gone() lease.Entry {
	e := entry()
	e.Card.Gone = true
	return e
}

func TestRegister(t *testing.T) {
	c := api.Card{Key: api.Key{App: "a", ID: "b"}, Status: api.Down, Over: api.Up, Lease: 7, Stamp: later, Gone: true}
	want := lease.Entry{Card: c, Seen: 9}
	want.Card.Gone = false
	for i, s := range []struct {
		old  lease.Entry
		in   bool
		over int
	}{
		{lease.Entry{}, false, 0},
		{entry(), true, api.Out},
		{entry(), false, 0},
		{gone(), true, 0},
		{gone(), false, 0},
	} {
		want.Card.Over = s.over
		if got := lease.Register(s.old, s.in, c, 9); got != want {
			t.Errorf("P9.1: Register %d: %v, not %v", i, got, want)
		}
	}
	if got := lease.Register(entry(), true, c, -3); got.Seen != -3 {
		t.Errorf("P9.1: Register: Seen %d", got.Seen)
	}
}

func TestRenew(t *testing.T) {
	for _, s := range []struct{ now, want int64 }{{21, 21}, {20, 20}, {19, 20}, {-5, 20}, {math.MaxInt64, math.MaxInt64}} {
		want := entry()
		want.Seen = s.want
		if got, ok := lease.Renew(entry(), s.now); !ok || got != want {
			t.Errorf("P9.1: Renew at %d: %v, %v", s.now, got, ok)
		}
	}
	if got, ok := lease.Renew(gone(), 50); ok || got != (lease.Entry{}) {
		t.Errorf("P9.1: Renew of one that is gone: %v, %v", got, ok)
	}
}

func TestCancel(t *testing.T) {
	want := gone()
	want.Card.Stamp, want.Seen = later, 5
	if got, ok := lease.Cancel(entry(), later, 5); !ok || got != want {
		t.Errorf("P9.1: Cancel: %v, %v", got, ok)
	}
	if got, ok := lease.Cancel(gone(), later, 5); ok || got != (lease.Entry{}) {
		t.Errorf("P9.1: Cancel of one that is gone: %v, %v", got, ok)
	}
}

func TestOverride(t *testing.T) {
	for over := 0; over <= api.Out; over++ {
		want := entry()
		want.Card.Over, want.Card.Stamp = over, later
		if got, ok := lease.Override(entry(), over, later); !ok || got != want {
			t.Errorf("P9.1: Override %d: %v, %v", over, got, ok)
		}
	}
	for _, over := range []int{-1, api.Out + 1, math.MinInt, math.MaxInt} {
		if got, ok := lease.Override(entry(), over, later); ok || got != (lease.Entry{}) {
			t.Errorf("P9.1: Override %d: %v, %v", over, got, ok)
		}
	}
	if got, ok := lease.Override(gone(), api.Up, later); ok || got != (lease.Entry{}) {
		t.Errorf("P9.1: Override of one that is gone: %v, %v", got, ok)
	}
}

func TestLate(t *testing.T) {
	const most = 1 << 62
	for _, s := range []struct{ seen, lease, now, want int64 }{
		{0, 5, 9, 4}, {0, 5, 5, 0}, {0, 5, 6, 1}, {7, 5, 9, 0}, {9, 1, 9, 0}, {10, 5, 2, 0},
		{-100, 5, 9, 4}, {0, -100, 9, 9}, {0, 5, -1, 0}, {3, 4, -9, 0},
		{0, 0, most, most}, {0, 0, math.MaxInt64, most}, {math.MinInt64, math.MinInt64, math.MaxInt64, most},
		{most - 1, 0, math.MaxInt64, 1}, {math.MaxInt64, 0, math.MaxInt64, 0}, {0, math.MaxInt64, math.MaxInt64, 0},
		{math.MaxInt64, math.MaxInt64, math.MinInt64, 0},
	} {
		e := lease.Entry{Seen: s.seen, Card: api.Card{Lease: s.lease}}
		if got := lease.Late(e, s.now); got != s.want {
			t.Errorf("P9.1: Late of seen %d, lease %d, at %d: %d, not %d", s.seen, s.lease, s.now, got, s.want)
		}
		e.Card.Gone = true
		if got := lease.Late(e, s.now); got != 0 {
			t.Errorf("P9.1: Late of one that is gone: %d", got)
		}
	}
}

func TestSame(t *testing.T) {
	a, b := entry(), entry()
	b.Seen++
	if !lease.Same(nil, []lease.Entry{}) || !lease.Same([]lease.Entry{a, b}, []lease.Entry{a, b}) {
		t.Error("Same of the same")
	}
	if lease.Same([]lease.Entry{a}, []lease.Entry{b}) || lease.Same([]lease.Entry{a}, []lease.Entry{gone()}) || lease.Same([]lease.Entry{a, b}, []lease.Entry{a}) || lease.Same([]lease.Entry{a, b}, []lease.Entry{b, a}) {
		t.Error("Same of others")
	}
}
