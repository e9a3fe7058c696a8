package clock_test

import (
	"math"
	"testing"

	"frankpledge/api"
	"frankpledge/clock"
)

func TestNew(t *testing.T) {
	for _, n := range []int{0, -1, api.MaxNodes + 1, math.MinInt, math.MaxInt} {
		if clock.New(n) != nil {
			t.Errorf("P7.1: New(%d)", n)
		}
	}
	for n := 1; n <= api.MaxNodes; n++ {
		c := clock.New(n)
		if c == nil || c.Apart() != 0 || c.Now(n-1) != 0 {
			t.Fatalf("P7.1: New(%d)", n)
		}
		if c.Tick(n-1, 1) != api.OK || c.Tick(n, 1) != api.ErrIndex {
			t.Errorf("P7.1: the nodes of New(%d)", n)
		}
	}
}

func TestTick(t *testing.T) {
	c := clock.New(3)
	for _, s := range []struct {
		node int
		n    int64
		want api.Errno
	}{
		{-1, 1, api.ErrIndex}, {3, 1, api.ErrIndex}, {math.MaxInt, 0, api.ErrIndex},
		{0, 0, api.ErrArg}, {0, -1, api.ErrArg}, {2, api.MaxStep + 1, api.ErrArg}, {2, math.MinInt64, api.ErrArg}, {1, math.MaxInt64, api.ErrArg},
	} {
		if why := c.Tick(s.node, s.n); why != s.want {
			t.Errorf("P7.1: Tick(%d, %d): %d", s.node, s.n, int(why))
		}
	}
	if c.Apart() != 0 || c.Now(0) != 0 {
		t.Error("R3: a refused Tick changed something")
	}
	if c.Tick(0, 5) != api.OK || c.Tick(2, api.MaxStep) != api.OK || c.Tick(0, 1) != api.OK {
		t.Error("P7.1: Tick")
	}
	if c.Now(0) != 6 || c.Now(1) != 0 || c.Now(2) != api.MaxStep || c.Now(-1) != 0 || c.Now(3) != 0 {
		t.Error("P7.1: Now")
	}
}

func TestApart(t *testing.T) {
	c := clock.New(2)
	c.Tick(0, 5)
	if c.Apart() != 5 {
		t.Errorf("P7.1: Apart: %d", c.Apart())
	}
	c.Tick(1, 7)
	if c.Apart() != 2 {
		t.Errorf("P7.1: Apart: %d", c.Apart())
	}
	one := clock.New(1)
	one.Tick(0, 9)
	if one.Apart() != 0 {
		t.Errorf("P7.1: Apart of one: %d", one.Apart())
	}
}
