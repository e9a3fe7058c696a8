package seal_test

import (
	"bytes"
	"slices"
	"testing"

	"frankpledge/api"
	"frankpledge/card"
	"frankpledge/frame"
	"frankpledge/seal"
)

func made(app, id string, lease int64) api.Card {
	return api.Card{Key: api.Key{App: app, ID: id}, Status: api.Up, Lease: lease, Stamp: api.Stamp{T: 1}}
}

func gone(app, id string) api.Card {
	c := made(app, id, 5)
	c.Gone = true
	return c
}

func TestSeen(t *testing.T) {
	a, b, c := made("a", "b", 1), made("b", "a", 2), made("a", "a", 3)
	l := []api.Card{b, gone("a", "0"), a, c, gone("z", "z")}
	had := slices.Clone(l)
	if got := seal.Seen(l); !card.Same(got, []api.Card{c, a, b}) {
		t.Errorf("P14.1: Seen: %v", got)
	}
	if !card.Same(l, had) {
		t.Error("R2: Seen changed what it was handed")
	}
	if len(seal.Seen(nil)) != 0 || len(seal.Seen([]api.Card{gone("a", "b")})) != 0 {
		t.Error("P14.1: Seen of nothing")
	}
}

func TestBytes(t *testing.T) {
	over := made("a", "cd", 258)
	over.Over = api.Out
	down := made("xy", "", -1)
	down.Status = api.Down
	want := []byte{1, 'a', 2, 'c', 'd', 3, 0, 0, 0, 0, 0, 0, 1, 2, 2, 'x', 'y', 0, 2, 255, 255, 255, 255, 255, 255, 255, 255}
	if got := seal.Bytes([]api.Card{down, gone("b", "b"), over}); !bytes.Equal(got, want) {
		t.Errorf("P14.1: Bytes: %v, not %v", got, want)
	}
	if len(seal.Bytes(nil)) != 0 {
		t.Error("P14.1: Bytes of nothing")
	}
}

func TestOf(t *testing.T) {
	if seal.Of(nil) != 17 || seal.Of([]api.Card{gone("a", "b")}) != 17 {
		t.Error("P14.1: Of nothing")
	}
	a, b := made("a", "b", 1), made("b", "a", 2)
	sum := seal.Of([]api.Card{a, b})
	if sum != frame.Sum(seal.Bytes([]api.Card{a, b})) || sum != seal.Of([]api.Card{b, gone("c", "c"), a}) {
		t.Error("P14.1: Of, and of another order, and of one more that is gone")
	}
	hidden := a
	hidden.Stamp.N, hidden.Status, hidden.Over = 9, api.Down, api.Up
	if seal.Of([]api.Card{hidden, b}) != sum {
		t.Error("P14.1: what is not seen is not summed")
	}
	for i, change := range []func(c *api.Card){
		func(c *api.Card) { c.Key.App = "aa" },
		func(c *api.Card) { c.Key.ID = "a" },
		func(c *api.Card) { c.Lease++ },
		func(c *api.Card) { c.Over = api.Down },
		func(c *api.Card) { c.Status = api.Down },
		func(c *api.Card) { c.Gone = true },
	} {
		c := a
		change(&c)
		if seal.Of([]api.Card{c, b}) == sum {
			t.Errorf("P14.1: change %d is seen, and not summed", i)
		}
	}
}

func TestClash(t *testing.T) {
	a, b := made("a", "b", 1), made("a", "b", 2)
	if seal.Clash(nil, nil) || seal.Clash([]api.Card{a}, []api.Card{a, gone("x", "x")}) {
		t.Error("P14.1: Clash of the same")
	}
	if seal.Clash([]api.Card{a}, []api.Card{b}) {
		t.Error("P14.1: Clash of other sums")
	}
	// The last two bytes of a Lease of 256 are 1 and 0, those of 31 are 0 and 31: times 31, both are 31.
	c, d := made("a", "b", 256), made("a", "b", 31)
	if seal.Of([]api.Card{c}) != seal.Of([]api.Card{d}) || !seal.Clash([]api.Card{c}, []api.Card{d}) || !seal.Clash([]api.Card{d, gone("x", "x")}, []api.Card{c}) {
		t.Error("P14.1: Clash of 256 and 31")
	}
	if seal.Clash([]api.Card{c}, []api.Card{c}) {
		t.Error("P14.1: Clash of one and itself")
	}
}
