package sweep_test

import (
	"math"
	"slices"
	"strconv"
	"testing"

	"frankpledge/api"
	"frankpledge/lease"
	"frankpledge/sweep"
)

func key(id string) api.Key { return api.Key{App: "a", ID: id} }

// entry is one that is seen at 0, with this lease.
func entry(id string, term int64) lease.Entry {
	return lease.Entry{Card: api.Card{Key: key(id), Lease: term}}
}

func gone(id string, seen int64) lease.Entry {
	return lease.Entry{Seen: seen, Card: api.Card{Key: key(id), Lease: 1, Gone: true}}
}

// fresh are so many that are not late.
func fresh(n int) []lease.Entry {
	var l []lease.Entry
	for i := range n {
		l = append(l, entry("f"+strconv.Itoa(i), 1000))
	}
	return l
}

func keys(ids ...string) []api.Key {
	var l []api.Key
	for _, id := range ids {
		l = append(l, key(id))
	}
	return l
}

func TestMost(t *testing.T) {
	for _, c := range []struct{ live, want int }{{-5, 0}, {math.MinInt, 0}, {0, 0}, {1, 1}, {6, 1}, {7, 2}, {13, 2}, {14, 3}, {20, 3}, {21, 4}, {32, 5}, {100, 15}, {api.MaxCount, 157287}, {api.MaxCount + 1, 157287}, {math.MaxInt, 157287}} {
		if got := sweep.Most(c.live); got != c.want {
			t.Errorf("P12.1: Most(%d): %d, not %d", c.live, got, c.want)
		}
	}
}

func TestPick(t *testing.T) {
	late := []lease.Entry{entry("d", 10), entry("b", 5), entry("c", 5), entry("a", 20)}
	all := append(slices.Clone(late), fresh(16)...)
	if got := sweep.Pick(all, 100, 0); !slices.Equal(got, keys("b", "c", "d")) {
		t.Errorf("P12.1: three of twenty, the latest first: %v", got)
	}
	if got := sweep.Pick(append(slices.Clone(late), fresh(17)...), 100, 0); !slices.Equal(got, keys("b", "c", "d", "a")) {
		t.Errorf("P12.1: four of twenty-one: %v", got)
	}
	if got := sweep.Pick(late, 100, 0); !slices.Equal(got, keys("b")) {
		t.Errorf("P12.1: one of four: %v", got)
	}
	if got := sweep.Pick(append([]lease.Entry{late[2]}, late[1]), 100, 0); !slices.Equal(got, keys("b")) {
		t.Errorf("P12.1: of those as late the first by key: %v", got)
	}
}

func TestPickLate(t *testing.T) {
	all := []lease.Entry{entry("a", 10), entry("b", 20)}
	for _, c := range []struct {
		now, late int64
		want      []api.Key
	}{
		{10, 0, nil}, {11, 0, keys("a")}, {11, -9, keys("a")}, {10, -9, nil}, {10, math.MinInt64, nil},
		{15, 5, nil}, {16, 5, keys("a")}, {100, 90, nil}, {100, 89, keys("a")}, {math.MaxInt64, math.MaxInt64, nil}, {-1, 0, nil},
	} {
		if got := sweep.Pick(all, c.now, c.late); !slices.Equal(got, c.want) {
			t.Errorf("P12.1: Pick at %d, late %d: %v", c.now, c.late, got)
		}
	}
}

func TestPickCountsTheLive(t *testing.T) {
	l := fresh(4)
	l = append(l, entry("a", 1), entry("b", 1))
	for i := range 20 {
		l = append(l, gone("g"+strconv.Itoa(i), 0))
	}
	if got := sweep.Pick(l, 50, 0); !slices.Equal(got, keys("a")) {
		t.Errorf("P12.1: those that are gone count not, nor are picked: %v", got)
	}
	if got := sweep.Pick(nil, 50, 0); len(got) != 0 {
		t.Errorf("P12.1: Pick of nothing: %v", got)
	}
	if got := sweep.Pick(fresh(5), 50, 0); len(got) != 0 {
		t.Errorf("P12.1: Pick of none late: %v", got)
	}
}

func TestDead(t *testing.T) {
	l := []lease.Entry{gone("z", 9), entry("y", 1), gone("b", 10), gone("a", 0), gone("x", 11)}
	if got := sweep.Dead(l, api.Keep+10); !slices.Equal(got, keys("z", "a")) {
		t.Errorf("P12.1: Dead: %v", got)
	}
	if got := sweep.Dead(l, api.Keep+11); !slices.Equal(got, keys("z", "b", "a")) {
		t.Errorf("P12.1: Dead a tick later: %v", got)
	}
	if got := sweep.Dead(l, -1); len(got) != 0 {
		t.Errorf("P12.1: Dead of none: %v", got)
	}
	early := []lease.Entry{gone("a", 0), gone("b", -5), gone("c", 1)}
	if got := sweep.Dead(early, api.Keep+1); !slices.Equal(got, keys("a", "b")) {
		t.Errorf("P12.1: Dead of those seen at 0, and ahead of it: %v", got)
	}
	if got := sweep.Dead(early, api.Keep); len(got) != 0 {
		t.Errorf("P12.1: Dead of those seen at 0, a tick too early: %v", got)
	}
	far := []lease.Entry{gone("a", math.MinInt64), gone("b", math.MaxInt64), gone("c", 1<<62), gone("d", 1<<62-api.Keep-1), gone("e", 1<<62-api.Keep)}
	if got := sweep.Dead(far, math.MaxInt64); !slices.Equal(got, keys("a", "d")) {
		t.Errorf("P12.1: Dead of numbers of any size: %v", got)
	}
	if got := sweep.Dead(far, math.MinInt64); len(got) != 0 {
		t.Errorf("P12.1: Dead ahead of all time: %v", got)
	}
	if got := sweep.Dead(far, api.Keep); len(got) != 0 {
		t.Errorf("P12.1: a time below 0 is 0: %v", got)
	}
}
