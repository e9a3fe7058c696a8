package shelf_test

import (
	"math"
	"slices"
	"strconv"
	"testing"

	"frankpledge/api"
	"frankpledge/lease"
	"frankpledge/shelf"
)

func entry(app, id string, seen int64) lease.Entry {
	return lease.Entry{Seen: seen, Card: api.Card{Key: api.Key{App: app, ID: id}}}
}

func gone(app, id string) lease.Entry {
	e := entry(app, id, 0)
	e.Card.Gone = true
	return e
}

// holds asks that s has just these entries, in this order.
func holds(t *testing.T, s *shelf.Shelf, want ...lease.Entry) {
	t.Helper()
	if got := s.All(); !lease.Same(got, want) || s.Len() != len(want) {
		t.Errorf("P10.1: All: %v, Len %d, not %v", got, s.Len(), want)
	}
	cards := s.Cards()
	if len(cards) != len(want) {
		t.Fatalf("P10.1: Cards: %v", cards)
	}
	for i, c := range cards {
		if c != want[i].Card {
			t.Errorf("P10.1: card %d: %v", i, c)
		}
	}
}

func TestMost(t *testing.T) {
	for _, c := range []struct{ most, room int }{{-1, 0}, {math.MinInt, 0}, {0, 0}, {1, 1}, {7, 7}, {api.MaxCards, api.MaxCards}, {api.MaxCards + 1, api.MaxCards}, {math.MaxInt, api.MaxCards}} {
		s := shelf.New(c.most)
		for i := range c.room {
			if why := s.Put(entry("a", strconv.Itoa(i), 0)); why != api.OK {
				t.Fatalf("P10.1: New(%d): Put %d: %d", c.most, i, int(why))
			}
		}
		if s.Put(entry("b", "", 0)) != api.ErrFull || s.Len() != c.room {
			t.Errorf("P10.1: New(%d): a full shelf", c.most)
		}
		if c.room > 0 && s.Put(entry("a", "0", 5)) != api.OK {
			t.Errorf("P10.1: New(%d): a key that is there goes into a full shelf", c.most)
		}
	}
}

func TestPutAndGet(t *testing.T) {
	s := shelf.New(5)
	holds(t, s)
	for _, e := range []lease.Entry{entry("b", "a", 1), entry("a", "z", 2), entry("b", "", 3), entry("ab", "0", 4)} {
		if s.Put(e) != api.OK {
			t.Fatal("P10.1: Put")
		}
	}
	holds(t, s, entry("a", "z", 2), entry("ab", "0", 4), entry("b", "", 3), entry("b", "a", 1))
	if s.Put(entry("ab", "0", 9)) != api.OK {
		t.Error("P10.1: Put of a key that is there")
	}
	holds(t, s, entry("a", "z", 2), entry("ab", "0", 9), entry("b", "", 3), entry("b", "a", 1))
	if e, ok := s.Get(api.Key{App: "ab", ID: "0"}); !ok || e != entry("ab", "0", 9) {
		t.Errorf("P10.1: Get: %v, %v", e, ok)
	}
	for _, k := range []api.Key{{}, {App: "ab"}, {App: "z", ID: "z"}, {App: "b", ID: "b"}} {
		if e, ok := s.Get(k); ok || e != (lease.Entry{}) {
			t.Errorf("P10.1: Get of none: %v, %v", e, ok)
		}
	}
}

func TestDrop(t *testing.T) {
	s := shelf.New(2)
	s.Put(entry("a", "a", 1))
	s.Put(entry("b", "b", 2))
	if s.Drop(api.Key{App: "a", ID: "b"}) || s.Drop(api.Key{}) {
		t.Error("P10.1: Drop of none")
	}
	holds(t, s, entry("a", "a", 1), entry("b", "b", 2))
	if !s.Drop(api.Key{App: "a", ID: "a"}) || s.Drop(api.Key{App: "a", ID: "a"}) {
		t.Error("P10.1: Drop")
	}
	holds(t, s, entry("b", "b", 2))
	if s.Put(entry("c", "c", 3)) != api.OK || s.Put(entry("d", "d", 4)) != api.ErrFull {
		t.Error("P10.1: Drop makes room for one")
	}
}

func TestLive(t *testing.T) {
	s := shelf.New(4)
	if s.Live() != 0 {
		t.Error("P10.1: Live of an empty shelf")
	}
	s.Put(entry("a", "a", 1))
	s.Put(gone("b", "b"))
	s.Put(entry("c", "c", 1))
	if s.Live() != 2 || s.Len() != 3 {
		t.Errorf("P10.1: Live: %d of %d", s.Live(), s.Len())
	}
	s.Put(gone("a", "a"))
	if s.Live() != 1 {
		t.Errorf("P10.1: Live: %d", s.Live())
	}
}

func TestMemory(t *testing.T) {
	s := shelf.New(3)
	s.Put(entry("a", "a", 1))
	s.Put(entry("b", "b", 2))
	all, cards := s.All(), s.Cards()
	all[0].Seen = 99
	cards[0].Lease = 99
	_ = slices.Insert(all, 0, gone("x", "x"))
	holds(t, s, entry("a", "a", 1), entry("b", "b", 2))
	all = s.All()
	s.Put(entry("a", "a", 7))
	s.Drop(api.Key{App: "b", ID: "b"})
	if !lease.Same(all, []lease.Entry{entry("a", "a", 1), entry("b", "b", 2)}) {
		t.Error("R2: an answer changes with the shelf")
	}
}
