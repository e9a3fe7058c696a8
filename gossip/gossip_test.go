package gossip_test

import (
	"fmt"
	"slices"
	"testing"

	"frankpledge/api"
	"frankpledge/card"
	"frankpledge/gossip"
	"frankpledge/mail"
)

func key(id string) api.Key { return api.Key{App: "a", ID: id} }

// made is a card of a key with a stamp of this T.
func made(id string, t int64) api.Card {
	return api.Card{Key: key(id), Status: api.Up, Lease: 5, Stamp: api.Stamp{T: t, Node: 1, N: 1}}
}

func keys(ids ...string) []api.Key {
	var l []api.Key
	for _, id := range ids {
		l = append(l, key(id))
	}
	return l
}

func TestDigest(t *testing.T) {
	gone := made("c", 1)
	gone.Gone = true
	l := []api.Card{made("b", 1), gone, made("a", 1), made("b", 0)}
	had := slices.Clone(l)
	want := api.Msg{Kind: api.Digest, Cards: []api.Card{l[2], l[0], l[3], gone}}
	if got := gossip.Digest(l); !mail.Same(got, want) {
		t.Errorf("P18.1: Digest: %v", got)
	}
	if !card.Same(l, had) {
		t.Error("R2: Digest changed what it was handed")
	}
	if got := gossip.Digest(nil); !mail.Same(got, api.Msg{Kind: api.Digest}) {
		t.Errorf("P18.1: Digest of nothing: %v", got)
	}
	var many []api.Card
	for i := range 2*api.MaxCards + 9 {
		many = append(many, made(fmt.Sprintf("%03d", 200-i), 1))
	}
	got := gossip.Digest(many)
	if len(got.Cards) != 2*api.MaxCards || got.Cards[0] != many[len(many)-1] || mail.Right(got) != nil {
		t.Errorf("P18.1: Digest of too many: %d", len(got.Cards))
	}
}

func TestCompare(t *testing.T) {
	for i, c := range []struct {
		mine, digest []api.Card
		keys         []api.Key
		cards        []api.Card
	}{
		{nil, nil, nil, nil},
		{nil, []api.Card{made("b", 1), made("a", 1)}, keys("a", "b"), nil},
		{[]api.Card{made("b", 1), made("a", 1)}, nil, nil, []api.Card{made("a", 1), made("b", 1)}},
		{[]api.Card{made("b", 1), made("a", 1)}, []api.Card{made("a", 1), made("b", 1)}, nil, nil},
		{[]api.Card{made("a", 1)}, []api.Card{made("b", 1)}, keys("b"), []api.Card{made("a", 1)}},
		{[]api.Card{made("b", 1)}, []api.Card{made("a", 1)}, keys("a"), []api.Card{made("b", 1)}},
		{[]api.Card{made("a", 1)}, []api.Card{made("a", 2)}, keys("a"), nil},
		{[]api.Card{made("a", 2)}, []api.Card{made("a", 1)}, nil, []api.Card{made("a", 2)}},
		{
			[]api.Card{made("a", 1), made("c", 5), made("d", 1), made("f", 3)},
			[]api.Card{made("f", 2), made("b", 1), made("c", 6), made("d", 1), made("g", 1)},
			keys("b", "c", "g"), []api.Card{made("a", 1), made("f", 3)},
		},
		{[]api.Card{made("a", 9), made("a", 1)}, []api.Card{made("a", 5)}, keys("a"), nil},
		{[]api.Card{made("a", 5)}, []api.Card{made("a", 9), made("a", 1)}, nil, []api.Card{made("a", 5)}},
		{nil, []api.Card{made("a", 9), made("b", 2), made("a", 1)}, keys("a", "b"), nil},
		{[]api.Card{made("a", 9), made("b", 2), made("a", 1)}, nil, nil, []api.Card{made("a", 1), made("b", 2)}},
	} {
		mine, digest := slices.Clone(c.mine), slices.Clone(c.digest)
		gotKeys, gotCards := gossip.Compare(mine, digest)
		if !slices.Equal(gotKeys, c.keys) || !card.Same(gotCards, c.cards) {
			t.Errorf("P18.1: Compare %d: %v, %v; not %v, %v", i, gotKeys, gotCards, c.keys, c.cards)
		}
		if !card.Same(mine, c.mine) || !card.Same(digest, c.digest) {
			t.Errorf("R2: Compare %d changed what it was handed", i)
		}
	}
}

// Which stamp is later hangs on all of it, and on nothing else of the card.
func TestCompareStamps(t *testing.T) {
	low, high := made("a", 1), made("a", 1)
	high.Stamp.N = 2
	other := low
	other.Status, other.Lease, other.Gone = api.Down, 9, true
	if k, c := gossip.Compare([]api.Card{low}, []api.Card{high}); !slices.Equal(k, keys("a")) || len(c) != 0 {
		t.Errorf("P18.1: a later N there: %v, %v", k, c)
	}
	if k, c := gossip.Compare([]api.Card{low}, []api.Card{other}); len(k) != 0 || len(c) != 0 {
		t.Errorf("P18.1: the same stamp: %v, %v", k, c)
	}
	high.Stamp = low.Stamp
	high.Stamp.Node++
	if k, c := gossip.Compare([]api.Card{high}, []api.Card{low}); len(k) != 0 || !card.Same(c, []api.Card{high}) {
		t.Errorf("P18.1: a later Node here: %v, %v", k, c)
	}
}

func TestAnswer(t *testing.T) {
	mine := []api.Card{made("a", 1), made("b", 2), made("c", 3), made("b", 4)}
	for i, c := range []struct {
		keys []api.Key
		want []api.Card
	}{
		{nil, nil},
		{keys("x", "y"), nil},
		{keys("c", "a"), []api.Card{made("c", 3), made("a", 1)}},
		{keys("b", "x", "b", "a", "b", "a"), []api.Card{made("b", 4), made("a", 1)}},
	} {
		if got := gossip.Answer(mine, c.keys); !card.Same(got, c.want) {
			t.Errorf("P18.1: Answer %d: %v", i, got)
		}
	}
	if got := gossip.Answer(nil, keys("a")); len(got) != 0 {
		t.Errorf("P18.1: Answer of nothing: %v", got)
	}
}
