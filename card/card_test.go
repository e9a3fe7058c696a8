package card_test

import (
	"math"
	"strings"
	"testing"

	"frankpledge/api"
	"frankpledge/card"
)

func key(app, id string) api.Key { return api.Key{App: app, ID: id} }

// good is a card that is right.
func good() api.Card {
	return api.Card{Key: key("app", "id1"), Status: api.Up, Lease: 30, Stamp: api.Stamp{T: 4, Node: 1, N: 2}}
}

func TestName(t *testing.T) {
	for _, s := range []string{"a", "z", "0", "9", "app1", strings.Repeat("q", api.MaxText)} {
		if !card.Name(s) {
			t.Errorf("P5.1: Name(%q): false", s)
		}
	}
	for _, s := range []string{"", "A", "Z", "a b", "a-b", "`", "{", "/", ":", "\x00", "a\n", "é", "ab\xff", strings.Repeat("q", api.MaxText+1)} {
		if card.Name(s) {
			t.Errorf("P5.1: Name(%q): true", s)
		}
	}
}

func TestRight(t *testing.T) {
	for i, change := range []func(c *api.Card){
		func(c *api.Card) {},
		func(c *api.Card) { c.Status = api.Down },
		func(c *api.Card) { c.Over = api.Up },
		func(c *api.Card) { c.Over = api.Out },
		func(c *api.Card) { c.Lease = 1 },
		func(c *api.Card) { c.Lease = api.MaxLease },
		func(c *api.Card) { c.Stamp = api.Stamp{} },
		func(c *api.Card) { c.Gone = true },
	} {
		c := good()
		change(&c)
		if !card.Right(c) {
			t.Errorf("P5.1: Right %d: false", i)
		}
	}
	for i, change := range []func(c *api.Card){
		func(c *api.Card) { c.Key.App = "" },
		func(c *api.Card) { c.Key.App = "App" },
		func(c *api.Card) { c.Key.ID = "" },
		func(c *api.Card) { c.Key.ID = "id!" },
		func(c *api.Card) { c.Status = 0 },
		func(c *api.Card) { c.Status = api.Out },
		func(c *api.Card) { c.Status = -1 },
		func(c *api.Card) { c.Over = -1 },
		func(c *api.Card) { c.Over = api.Out + 1 },
		func(c *api.Card) { c.Lease = 0 },
		func(c *api.Card) { c.Lease = api.MaxLease + 1 },
		func(c *api.Card) { c.Lease = math.MinInt64 },
		func(c *api.Card) { c.Stamp.T = -1 },
		func(c *api.Card) { c.Stamp.N = -1 },
		func(c *api.Card) { c.Stamp.Node = api.MaxNodes },
	} {
		c := good()
		change(&c)
		if card.Right(c) {
			t.Errorf("P5.1: Right of wrong %d: true", i)
		}
	}
	if card.Right(api.Card{}) {
		t.Error("P5.1: Right of no card: true")
	}
}

func TestLess(t *testing.T) {
	rising := []api.Key{key("", ""), key("", "z"), key("a", ""), key("a", "b"), key("a", "ba"), key("a", "c"), key("aa", "a"), key("b", ""), key("b", "a")}
	for i, a := range rising {
		for j, b := range rising {
			if got := card.Less(a, b); got != (i < j) {
				t.Errorf("P5.1: Less(%v, %v): %v", a, b, got)
			}
		}
	}
}

func TestShowsAndKind(t *testing.T) {
	for _, c := range []struct {
		c    api.Card
		want int
	}{
		{api.Card{Status: api.Up}, api.Up},
		{api.Card{Status: api.Down}, api.Down},
		{api.Card{Status: api.Up, Over: api.Out}, api.Out},
		{api.Card{Status: api.Down, Over: api.Up}, api.Up},
		{api.Card{Status: api.Up, Over: api.Out, Gone: true}, 0},
		{api.Card{Status: api.Up, Gone: true}, 0},
		{api.Card{}, 0},
	} {
		if got := card.Shows(c.c); got != c.want {
			t.Errorf("P5.1: Shows(%v): %d, not %d", c.c, got, c.want)
		}
	}
	for status, want := range map[int]string{api.Up: "up", api.Down: "down", api.Out: "out", 0: "", 4: "", -1: "", math.MaxInt: ""} {
		if got := card.Kind(status); got != want {
			t.Errorf("P5.1: Kind(%d): %q", status, got)
		}
	}
}

func TestJoin(t *testing.T) {
	a, b := good(), good()
	b.Status = api.Down
	if card.Join(a, b) != a || card.Join(b, a) != b {
		t.Error("P5.1: Join of the same stamp tells the first")
	}
	b.Stamp.N++
	if card.Join(a, b) != b || card.Join(b, a) != b {
		t.Error("P5.1: Join tells the later one")
	}
}

func TestSort(t *testing.T) {
	var l []api.Card
	for i, k := range []api.Key{key("b", "a"), key("a", "b"), key("b", "a"), key("a", "a"), key("b", "a")} {
		l = append(l, api.Card{Key: k, Lease: int64(i)})
	}
	had := append([]api.Card(nil), l...)
	got := card.Sort(l)
	want := []api.Card{l[3], l[1], l[0], l[2], l[4]}
	if !card.Same(got, want) {
		t.Errorf("P5.1: Sort: %v", got)
	}
	got[0].Lease = 99
	if !card.Same(l, had) {
		t.Error("R2: Sort changed what it was handed")
	}
	if len(card.Sort(nil)) != 0 {
		t.Error("P5.1: Sort of nothing")
	}
}

// Many cards of a few keys: an order that is not kept shows there.
func TestSortKeepsOrder(t *testing.T) {
	var l []api.Card
	for i := range 200 {
		l = append(l, api.Card{Key: key("a", string(rune('a'+i*7%3))), Lease: int64(i)})
	}
	got := card.Sort(l)
	for i := 1; i < len(got); i++ {
		a, b := got[i-1], got[i]
		if card.Less(b.Key, a.Key) || a.Key == b.Key && a.Lease > b.Lease {
			t.Fatalf("P5.1: Sort: %v ahead of %v", a, b)
		}
	}
}

func TestSame(t *testing.T) {
	a, b := good(), good()
	b.Gone = true
	if !card.Same(nil, []api.Card{}) || !card.Same([]api.Card{a, b}, []api.Card{a, b}) {
		t.Error("P5.1: Same of the same")
	}
	if card.Same([]api.Card{a, b}, []api.Card{b, a}) || card.Same([]api.Card{a}, []api.Card{a, a}) || card.Same([]api.Card{a}, nil) || card.Same([]api.Card{a}, []api.Card{b}) {
		t.Error("P5.1: Same of others")
	}
}
