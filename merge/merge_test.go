package merge_test

import (
	"math"
	"slices"
	"strconv"
	"testing"

	"frankpledge/api"
	"frankpledge/card"
	"frankpledge/desk"
	"frankpledge/lease"
	"frankpledge/merge"
)

const latest = 1 << 40

// made is a card of a key with a stamp of this T.
func made(id string, t int64) api.Card {
	return api.Card{Key: api.Key{App: "a", ID: id}, Status: api.Up, Lease: 5 + t, Stamp: api.Stamp{T: t, Node: 1, N: 1}}
}

func asGone(c api.Card) api.Card {
	c.Gone = true
	return c
}

// with is a desk that has these cards, seen at 1.
func with(l ...api.Card) *desk.Desk {
	d := desk.New(0, 0)
	for _, c := range l {
		d.Set(lease.Entry{Card: c, Seen: 1})
	}
	return d
}

// goesInto asks what Into tells, and how many changes it made.
func goesInto(t *testing.T, where string, d *desk.Desk, l []api.Card, now int64, want []api.Card, refused int) {
	t.Helper()
	seq := d.Recent().Seq()
	had := slices.Clone(l)
	got, n := merge.Into(d, l, now)
	if !card.Same(got, want) || n != refused {
		t.Errorf("P19.1: %s: %v, %d refused; not %v, %d", where, got, n, want, refused)
	}
	if d.Recent().Seq()-seq != int64(len(want)) {
		t.Errorf("P19.1: %s: %d changes", where, d.Recent().Seq()-seq)
	}
	if !card.Same(l, had) {
		t.Errorf("R2: %s: Into changed what it was handed", where)
	}
}

func holds(t *testing.T, where string, d *desk.Desk, c api.Card, seen int64) {
	t.Helper()
	if e, in := d.Shelf().Get(c.Key); !in || e.Card != c || e.Seen != seen {
		t.Errorf("P19.1: %s: %v, %v", where, e, in)
	}
}

func TestInto(t *testing.T) {
	d := with(made("a", 5), made("b", 5), asGone(made("c", 5)))
	goesInto(t, "new ones, in their order", d, []api.Card{made("e", 1), asGone(made("d", 0))}, 9, []api.Card{made("e", 1), asGone(made("d", 0))}, 0)
	holds(t, "a new one", d, made("e", 1), 9)
	holds(t, "a new one that is gone", d, asGone(made("d", 0)), 9)
	goesInto(t, "an earlier stamp", d, []api.Card{made("a", 4)}, 10, nil, 0)
	holds(t, "an earlier stamp", d, made("a", 5), 1)
	goesInto(t, "a later stamp", d, []api.Card{made("a", 6), made("c", 6)}, 11, []api.Card{made("a", 6), made("c", 6)}, 0)
	holds(t, "a later stamp", d, made("a", 6), 11)
	holds(t, "a later stamp of one that is gone", d, made("c", 6), 11)
	if d.Stamp() != (api.Stamp{}) {
		t.Error("P19.1: Into gives no stamp")
	}
	goesInto(t, "nothing", d, nil, 12, nil, 0)
	goesInto(t, "one key twice", d, []api.Card{made("f", 2), made("f", 1), made("f", 3)}, 13, []api.Card{made("f", 2), made("f", 3)}, 0)
}

func TestIntoTheSame(t *testing.T) {
	d := with(made("a", 5), asGone(made("c", 5)))
	other := made("a", 5)
	other.Status, other.Gone = api.Down, true
	goesInto(t, "the same stamp", d, []api.Card{other, made("c", 5)}, 20, nil, 0)
	holds(t, "the same stamp: the card stays, and is seen", d, made("a", 5), 20)
	holds(t, "the same stamp of one that is gone", d, asGone(made("c", 5)), 1)
}

func TestIntoWrongCards(t *testing.T) {
	wrong := []api.Card{made("A", 1), made("b", -1), made("", 1), {}}
	wrong = append(wrong, made("x", 9))
	wrong[4].Lease = 0
	d := with(made("x", 5))
	goesInto(t, "wrong cards", d, wrong, 9, nil, 0)
	holds(t, "wrong cards", d, made("x", 5), 1)
	goesInto(t, "a right one behind them", d, append(wrong, made("z", 1)), 9, []api.Card{made("z", 1)}, 0)
}

func TestIntoNow(t *testing.T) {
	d := with()
	goesInto(t, "an early now", d, []api.Card{made("a", 1)}, -7, []api.Card{made("a", 1)}, 0)
	holds(t, "an early now", d, made("a", 1), 0)
	goesInto(t, "a late now", d, []api.Card{made("a", 2)}, math.MaxInt64, []api.Card{made("a", 2)}, 0)
	holds(t, "a late now", d, made("a", 2), latest)
	goesInto(t, "a late now, the same", d, []api.Card{made("a", 2)}, latest+1, nil, 0)
	holds(t, "a late now, the same", d, made("a", 2), latest)
}

func TestIntoRefused(t *testing.T) {
	d := with()
	for i := range api.MaxCards - 1 {
		d.Set(lease.Entry{Card: made(strconv.Itoa(i), 1)})
	}
	goesInto(t, "a full desk", d, []api.Card{made("x", 1), made("y", 1), made("3", 2), made("z", 1)}, 5, []api.Card{made("x", 1), made("3", 2)}, 2)
	if got, n := merge.Into(nil, []api.Card{made("a", 1)}, 5); len(got) != 0 || n != 0 {
		t.Errorf("R1: Into of nil: %v, %d", got, n)
	}
}

func TestJoin(t *testing.T) {
	a, b := made("a", 1), made("a", 1)
	b.Status = api.Down
	for i, c := range []struct {
		l    [][]api.Card
		want []api.Card
	}{
		{nil, nil},
		{[][]api.Card{nil, {}}, nil},
		{[][]api.Card{{made("b", 1), made("a", 2)}, {made("c", 1), made("a", 3)}, {made("b", 0)}}, []api.Card{made("a", 3), made("b", 1), made("c", 1)}},
		{[][]api.Card{{made("a", 1), made("a", 3), made("a", 2)}}, []api.Card{made("a", 3)}},
		{[][]api.Card{{a}, {b}}, []api.Card{a}},
		{[][]api.Card{{b}, {a}}, []api.Card{b}},
	} {
		if got := merge.Join(c.l...); !card.Same(got, c.want) {
			t.Errorf("P19.2: Join %d: %v, not %v", i, got, c.want)
		}
	}
}

func TestJoinMemory(t *testing.T) {
	l := []api.Card{made("a", 1), made("b", 2)}
	got := merge.Join(l)
	clear(got)
	if l[0] != made("a", 1) || l[1] != made("b", 2) {
		t.Error("R2: Join shares memory with what it was handed")
	}
}

// P19.3: whatever the order, the join of all and what a desk has of them are the same.
func TestOrderMakesNoDifference(t *testing.T) {
	l := []api.Card{made("a", 1), asGone(made("b", 4)), made("a", 3), made("b", 2), asGone(made("a", 2)), made("c", 1)}
	want := merge.Join(l)
	orders(l, func(p []api.Card) {
		if got := merge.Join(p[:2], p[2:]); !card.Same(got, want) {
			t.Fatalf("P19.3: Join of %v: %v", p, got)
		}
		d := with()
		merge.Into(d, p, 5)
		if got := d.Shelf().Cards(); !card.Same(got, want) {
			t.Fatalf("P19.3: Into of %v: %v", p, got)
		}
	})
}

// orders calls f with each order of l.
func orders(l []api.Card, f func([]api.Card)) {
	var from func(i int)
	from = func(i int) {
		if i == len(l) {
			f(slices.Clone(l))
			return
		}
		for j := i; j < len(l); j++ {
			l[i], l[j] = l[j], l[i]
			from(i + 1)
			l[i], l[j] = l[j], l[i]
		}
	}
	from(0)
}
