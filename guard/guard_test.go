package guard_test

import (
	"math"
	"testing"

	"frankpledge/api"
	"frankpledge/guard"
)

// renew renews so many times.
func renew(g *guard.Guard, times int) {
	for range times {
		g.Renew()
	}
}

// counts asks for g's two counts.
func counts(t *testing.T, where string, g *guard.Guard, last, this int64) {
	t.Helper()
	if g.Last() != last || g.This() != this {
		t.Errorf("P11.1: %s: last %d, this %d; not %d, %d", where, g.Last(), g.This(), last, this)
	}
}

func TestWindows(t *testing.T) {
	g := guard.New(100)
	counts(t, "a new one", g, 0, 0)
	renew(g, 3)
	counts(t, "three renewals", g, 0, 3)
	g.Tick(100 + api.Window - 1)
	counts(t, "the window's last tick", g, 0, 3)
	g.Tick(100 + api.Window)
	counts(t, "the next window", g, 3, 0)
	renew(g, 2)
	g.Tick(100 + api.Window)
	counts(t, "the same tick again", g, 3, 2)
	g.Tick(100 + 2*api.Window + 7)
	counts(t, "a little into the third one", g, 2, 0)
	renew(g, 5)
	g.Tick(100 + 3*api.Window - 1)
	counts(t, "windows begin where they would have", g, 2, 5)
	g.Tick(100 + 3*api.Window)
	counts(t, "the fourth one", g, 5, 0)
}

func TestWindowsThatWentBy(t *testing.T) {
	g := guard.New(0)
	renew(g, 4)
	g.Tick(2*api.Window - 1)
	counts(t, "nearly two windows", g, 4, 0)
	renew(g, 4)
	g.Tick(3 * api.Window)
	counts(t, "two windows", g, 0, 0)
	renew(g, 6)
	g.Tick(10*api.Window + 59)
	counts(t, "many windows", g, 0, 0)
	renew(g, 6)
	g.Tick(11 * api.Window)
	counts(t, "the window begins at the last beginning", g, 6, 0)
	g.Tick(-5)
	g.Tick(10 * api.Window)
	counts(t, "an earlier time", g, 6, 0)
}

func TestTicksOfAnySize(t *testing.T) {
	g := guard.New(math.MinInt64)
	renew(g, 1)
	g.Tick(math.MinInt64 + api.Window - 1)
	counts(t, "far ahead of 0", g, 0, 1)
	g.Tick(math.MaxInt64)
	counts(t, "all of time", g, 0, 0)
	renew(g, 1)
	g.Tick(math.MinInt64)
	counts(t, "back again", g, 0, 1)
	g = guard.New(math.MaxInt64)
	renew(g, 1)
	g.Tick(math.MaxInt64)
	counts(t, "at the end of time", g, 0, 1)
}

func TestMaxCount(t *testing.T) {
	g := guard.New(0)
	renew(g, api.MaxCount)
	counts(t, "as many as are counted", g, 0, api.MaxCount)
	renew(g, 3)
	counts(t, "more than are counted", g, 0, api.MaxCount)
	g.Tick(api.Window)
	counts(t, "and then", g, api.MaxCount, 0)
}

func TestNeed(t *testing.T) {
	for _, c := range []struct {
		live int
		want int64
	}{{-1, 0}, {math.MinInt, 0}, {0, 0}, {1, 5}, {2, 10}, {3, 15}, {7, 35}, {10, 51}, {32, 163}, {api.MaxCount, api.MaxCount * 510 / 100}, {api.MaxCount + 1, api.MaxCount * 510 / 100}, {math.MaxInt, api.MaxCount * 510 / 100}} {
		if got := guard.Need(c.live); got != c.want {
			t.Errorf("P11.1: Need(%d): %d, not %d", c.live, got, c.want)
		}
	}
}

func TestProtects(t *testing.T) {
	g := guard.New(0)
	if g.Protects(0) || g.Protects(-1) || !g.Protects(1) || !g.Protects(math.MaxInt) {
		t.Error("P11.1: Protects of a new one")
	}
	renew(g, 10)
	if !g.Protects(2) {
		t.Error("P11.1: This window's renewals do not count yet")
	}
	g.Tick(api.Window)
	if g.Protects(2) || !g.Protects(3) {
		t.Error("P11.1: ten renewals are enough for two")
	}
}
