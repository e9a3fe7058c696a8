package cache_test

import (
	"slices"
	"testing"

	"frankpledge/api"
	"frankpledge/cache"
	"frankpledge/card"
	"frankpledge/seal"
)

func made(id string, term int64) api.Card {
	return api.Card{Key: api.Key{App: "a", ID: id}, Status: api.Up, Lease: term}
}

func gone(id string) api.Card {
	c := made(id, 1)
	c.Gone = true
	return c
}

// fed is an Answer of these cards whose Sum is that of shown.
func fed(full bool, seq int64, shown []api.Card, l ...api.Card) api.Msg {
	return api.Msg{Kind: api.Answer, Op: api.Fetch, Tag: 4, Full: full, Seq: seq, Sum: seal.Of(shown), Cards: l}
}

// applies asks what Apply tells, and what is remembered then.
func applies(t *testing.T, where string, c *cache.Cache, m api.Msg, why api.Errno, since int64, want ...api.Card) {
	t.Helper()
	if got := c.Apply(m); got != why || c.Since() != since || !card.Same(c.Cards(), want) {
		t.Errorf("P21.1: %s: %d, since %d, %v; not %d, %d, %v", where, int(got), c.Since(), c.Cards(), int(why), since, want)
	}
}

func TestNew(t *testing.T) {
	if c := cache.New(); c.Since() != -1 || len(c.Cards()) != 0 {
		t.Error("P21.1: New")
	}
}

func TestApply(t *testing.T) {
	c := cache.New()
	a, b, d := made("a", 1), made("b", 2), made("d", 3)
	all := []api.Card{a, b}
	applies(t, "a delta of a new one", c, fed(false, 3, all, a, b), api.ErrStale, -1)
	applies(t, "a full one", c, fed(true, 3, all, b, a), api.OK, 3, a, b)
	applies(t, "a delta", c, fed(false, 5, []api.Card{a, d}, d, gone("b")), api.OK, 5, a, d)
	a2 := made("a", 9)
	applies(t, "a card in its key's place", c, fed(false, 6, []api.Card{a2, d}, a2, gone("x")), api.OK, 6, a2, d)
	applies(t, "a delta of nothing", c, fed(false, 6, []api.Card{a2, d}), api.OK, 6, a2, d)
	applies(t, "one key twice, in order", c, fed(false, 9, []api.Card{a, d}, b, a2, gone("b"), a), api.OK, 9, a, d)
	applies(t, "gone, and there again", c, fed(false, 10, []api.Card{a, d}, gone("d"), d), api.OK, 10, a, d)
	applies(t, "a full one begins from none", c, fed(true, 1, []api.Card{b}, b), api.OK, 1, b)
	applies(t, "a full one of nothing", c, fed(true, 0, nil), api.OK, 0)
}

func TestApplyStale(t *testing.T) {
	c := cache.New()
	a, b := made("a", 1), made("b", 2)
	c.Apply(fed(true, 3, []api.Card{a}, a))
	if why := c.Apply(fed(false, 5, []api.Card{a, b})); why != api.ErrStale || c.Since() != -1 {
		t.Errorf("P21.1: behind a delta that was lost: %d, since %d", int(why), c.Since())
	}
	if !card.Same(c.Cards(), []api.Card{a}) {
		t.Errorf("P21.1: the cards stay: %v", c.Cards())
	}
	applies(t, "a delta behind that", c, fed(false, 6, []api.Card{a}), api.ErrStale, -1, a)
	applies(t, "a full one behind that", c, fed(true, 6, []api.Card{a, b}, a, b), api.OK, 6, a, b)
	wrong := fed(true, 8, []api.Card{a}, a, b)
	if why := c.Apply(wrong); why != api.ErrStale || c.Since() != -1 {
		t.Errorf("P21.1: a full one of a wrong sum: %d, since %d", int(why), c.Since())
	}
}

func TestApplyRefuses(t *testing.T) {
	c := cache.New()
	a := made("a", 1)
	c.Apply(fed(true, 3, []api.Card{a}, a))
	for i, change := range []func(m *api.Msg){
		func(m *api.Msg) { m.Kind = api.Push },
		func(m *api.Msg) { m.Kind = api.Ask },
		func(m *api.Msg) { m.Op, m.Key = api.Renew, a.Key },
		func(m *api.Msg) { m.Code = 1 },
		func(m *api.Msg) { m.Code = 256 },
		func(m *api.Msg) { m.Seq = -2 },
		func(m *api.Msg) { m.Key = a.Key },
		func(m *api.Msg) { m.N = 1 },
		func(m *api.Msg) { m.Cards[0].Lease = 0 },
		func(m *api.Msg) { m.Cards = slices.Repeat(m.Cards, 2*api.MaxCards+1) },
	} {
		m := fed(true, 9, []api.Card{made("b", 2)}, made("b", 2))
		change(&m)
		if why := c.Apply(m); why != api.ErrArg || c.Since() != 3 || !card.Same(c.Cards(), []api.Card{a}) {
			t.Errorf("P21.1: wrong message %d: %d, since %d, %v", i, int(why), c.Since(), c.Cards())
		}
	}
	applies(t, "no message", c, api.Msg{}, api.ErrArg, 3, a)
}

func TestForget(t *testing.T) {
	c := cache.New()
	a := made("a", 1)
	c.Apply(fed(true, 3, []api.Card{a}, a))
	c.Forget()
	if c.Since() != -1 || !card.Same(c.Cards(), []api.Card{a}) {
		t.Errorf("P21.1: Forget: since %d, %v", c.Since(), c.Cards())
	}
	applies(t, "a delta behind Forget", c, fed(false, 3, []api.Card{a}), api.ErrStale, -1, a)
}

func TestMemory(t *testing.T) {
	c := cache.New()
	a, b := made("a", 1), made("b", 1)
	m := fed(true, 3, []api.Card{a, b}, a, b)
	had := slices.Clone(m.Cards)
	c.Apply(m)
	if !card.Same(m.Cards, had) {
		t.Error("R2: Apply changed what it was handed")
	}
	clear(m.Cards)
	old := c.Cards()
	clear(c.Cards())
	applies(t, "what is told and handed out is new", c, fed(false, 4, []api.Card{b}, gone("a")), api.OK, 4, b)
	if !card.Same(old, []api.Card{a, b}) {
		t.Error("R2: an answer changes with the cache")
	}
}
