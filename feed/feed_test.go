package feed_test

import (
	"testing"

	"frankpledge/api"
	"frankpledge/feed"
	"frankpledge/lease"
	"frankpledge/mail"
	"frankpledge/recent"
	"frankpledge/seal"
	"frankpledge/shelf"
)

func made(id string, gone bool) api.Card {
	return api.Card{Key: api.Key{App: "a", ID: id}, Status: api.Up, Lease: 9, Stamp: api.Stamp{T: 2, N: 1}, Gone: gone}
}

// register is a shelf and a Row with these changes, each card put and added.
func register(cards ...api.Card) (*shelf.Shelf, *recent.Row) {
	s, r := shelf.New(api.MaxCards), recent.New()
	for _, c := range cards {
		s.Put(lease.Entry{Card: c})
		r.Add(c.Key)
	}
	return s, r
}

// answers asks for an Answer that has just these fields, and is right.
func answers(t *testing.T, where string, got, want api.Msg) {
	t.Helper()
	want.Kind, want.Op = api.Answer, api.Fetch
	if !mail.Same(got, want) {
		t.Errorf("P15.1: %s: %v, not %v", where, got, want)
	}
	if err := mail.Right(got); err != nil {
		t.Errorf("P15.1: %s: %v", where, err)
	}
}

func TestFull(t *testing.T) {
	s, r := register()
	answers(t, "Full of an empty shelf", feed.Full(s, r), api.Msg{Full: true, Sum: 17})
	b, a, g := made("b", false), made("a", false), made("0", true)
	s, r = register(b, g, a)
	sum := seal.Of([]api.Card{a, b})
	answers(t, "Full", feed.Full(s, r), api.Msg{Full: true, Seq: 3, Sum: sum, Cards: []api.Card{a, b}})
}

func TestDelta(t *testing.T) {
	b, a, g := made("b", false), made("a", false), made("0", true)
	s, r := register(b, g, a)
	s.Drop(b.Key)
	sum := seal.Of([]api.Card{a})
	dropped := api.Card{Key: b.Key, Status: api.Down, Lease: 1, Gone: true}
	full := api.Msg{Full: true, Seq: 3, Sum: sum, Cards: []api.Card{a}}
	answers(t, "Delta since 0", feed.Delta(s, r, 0), api.Msg{Seq: 3, Sum: sum, Cards: []api.Card{dropped, g, a}})
	answers(t, "Delta since 1", feed.Delta(s, r, 1), api.Msg{Seq: 3, Sum: sum, Cards: []api.Card{g, a}})
	answers(t, "Delta since Seq", feed.Delta(s, r, 3), api.Msg{Seq: 3, Sum: sum})
	answers(t, "Delta since -1", feed.Delta(s, r, -1), full)
	answers(t, "Delta since what is to come", feed.Delta(s, r, 4), full)
	a.Lease = 77
	s.Put(lease.Entry{Card: a})
	r.Add(a.Key)
	sum = seal.Of([]api.Card{a})
	answers(t, "Delta of two changes of one key", feed.Delta(s, r, 2), api.Msg{Seq: 4, Sum: sum, Cards: []api.Card{a}})
}

func TestDeltaOfTooMany(t *testing.T) {
	s, r := register(made("a", false))
	for range api.MaxRecent {
		r.Add(made("a", false).Key)
	}
	if m := feed.Delta(s, r, 0); !m.Full {
		t.Error("P15.1: Delta since what is no longer known")
	}
	if m := feed.Delta(s, r, 1); m.Full || len(m.Cards) != 1 {
		t.Error("P15.1: Delta since the oldest that is known")
	}
}

func TestNil(t *testing.T) {
	s, r := register(made("a", false))
	for i, m := range []api.Msg{feed.Full(nil, r), feed.Full(s, nil), feed.Full(nil, nil), feed.Delta(nil, r, 0), feed.Delta(s, nil, 0), feed.Delta(nil, nil, -1)} {
		if !mail.Same(m, api.Msg{}) {
			t.Errorf("P15.1: of a nil, %d: %v", i, m)
		}
	}
}
