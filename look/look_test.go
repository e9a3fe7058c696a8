package look_test

import (
	"math"
	"slices"
	"testing"

	"frankpledge/api"
	"frankpledge/card"
	"frankpledge/look"
)

func made(app, id string, status, over int) api.Card {
	return api.Card{Key: api.Key{App: app, ID: id}, Status: status, Over: over, Lease: 5}
}

func gone(app, id string) api.Card {
	c := made(app, id, api.Up, 0)
	c.Gone = true
	return c
}

// some are cards of which only three of app a are found: b, c and e.
func some() []api.Card {
	return []api.Card{
		made("a", "e", api.Up, 0), made("a", "d", api.Down, 0), gone("a", "a"), made("a", "b", api.Up, 0),
		made("a", "x", api.Up, api.Out), made("a", "y", api.Up, api.Down), made("a", "c", api.Down, api.Up),
		made("b", "b", api.Up, 0), made("aa", "b", api.Up, api.Up), gone("z", "z"), made("", "b", api.Up, 0),
	}
}

func TestFind(t *testing.T) {
	l := some()
	had := slices.Clone(l)
	if got := look.Find(l, "a"); !card.Same(got, []api.Card{l[3], l[6], l[0]}) {
		t.Errorf("P23.1: Find: %v", got)
	}
	if got := look.Find(l, "aa"); !card.Same(got, []api.Card{l[8]}) {
		t.Errorf("P23.1: Find of another: %v", got)
	}
	for _, app := range []string{"z", "none", "A"} {
		if got := look.Find(l, app); len(got) != 0 {
			t.Errorf("P23.1: Find of %q: %v", app, got)
		}
	}
	if len(look.Find(nil, "a")) != 0 || len(look.Find(nil, "")) != 0 {
		t.Error("P23.1: Find of nothing")
	}
	if !card.Same(l, had) {
		t.Error("R2: Find changed what it was handed")
	}
}

func TestPick(t *testing.T) {
	l := some()
	found := []api.Card{l[3], l[6], l[0]}
	for _, c := range []struct {
		turn int64
		want int
	}{{0, 0}, {1, 1}, {2, 2}, {3, 0}, {-1, 2}, {-2, 1}, {-3, 0}, {-4, 2}, {math.MaxInt64, 1}, {math.MinInt64, 1}} {
		if got, ok := look.Pick(l, "a", c.turn); !ok || got != found[c.want] {
			t.Errorf("P23.1: Pick by %d: %v, %v", c.turn, got, ok)
		}
	}
	for _, turn := range []int64{0, -1, math.MinInt64} {
		if got, ok := look.Pick(l, "z", turn); ok || got != (api.Card{}) {
			t.Errorf("P23.1: Pick of none by %d: %v, %v", turn, got, ok)
		}
	}
}

func TestApps(t *testing.T) {
	if got := look.Apps(some()); !slices.Equal(got, []string{"", "a", "aa", "b"}) {
		t.Errorf("P23.1: Apps: %q", got)
	}
	if got := look.Apps([]api.Card{gone("a", "a")}); len(got) != 0 {
		t.Errorf("P23.1: Apps of those that are gone: %q", got)
	}
	if len(look.Apps(nil)) != 0 {
		t.Error("P23.1: Apps of nothing")
	}
}

func TestCount(t *testing.T) {
	if got := look.Count(some()); got != [4]int{2, 6, 2, 1} {
		t.Errorf("P23.1: Count: %v", got)
	}
	odd := []api.Card{made("a", "a", 0, 0), made("a", "b", 4, 0), made("a", "c", api.Up, -1), made("a", "d", math.MaxInt, 0), made("a", "e", math.MinInt, 0)}
	if got := look.Count(odd); got != [4]int{1, 0, 0, 0} {
		t.Errorf("P23.1: Count of what is no status: %v", got)
	}
	if got := look.Count(nil); got != [4]int{} {
		t.Errorf("P23.1: Count of nothing: %v", got)
	}
}
