package desk_test

import (
	"math"
	"strconv"
	"testing"

	"frankpledge/api"
	"frankpledge/card"
	"frankpledge/desk"
	"frankpledge/lease"
	"frankpledge/mail"
	"frankpledge/seal"
)

const latest = 1 << 40

func key(id string) api.Key { return api.Key{App: "a", ID: id} }

func ask(op int, id string, n int64, status int) api.Msg {
	return api.Msg{Kind: api.Ask, Tag: 7, Op: op, Key: key(id), N: n, Status: status}
}

func register(id string, n int64) api.Msg { return ask(api.Register, id, n, api.Up) }

func fetch(seq int64) api.Msg { return api.Msg{Kind: api.Ask, Tag: 8, Op: api.Fetch, Seq: seq} }

// handled asks for this Code and these cards, and that the Answer tells nothing else.
func handled(t *testing.T, where string, d *desk.Desk, m api.Msg, now int64, why api.Errno, cards ...api.Card) {
	t.Helper()
	got, changed := d.Handle(m, now)
	want := api.Msg{Kind: api.Answer, Tag: m.Tag, Op: m.Op, Key: m.Key, Code: int(why)}
	if !mail.Same(got, want) {
		t.Errorf("P16.2: %s: %v, not %v", where, got, want)
	}
	if !card.Same(changed, cards) {
		t.Errorf("P16.2: %s changed %v, not %v", where, changed, cards)
	}
}

// made is a card of node 2.
func made(id string, status, over int, term int64, t, n int64) api.Card {
	return api.Card{Key: key(id), Status: status, Over: over, Lease: term, Stamp: api.Stamp{T: t, Node: 2, N: n}}
}

func asGone(c api.Card) api.Card {
	c.Gone = true
	return c
}

// holds asks that k's entry is just this one.
func holds(t *testing.T, where string, d *desk.Desk, c api.Card, seen int64) {
	t.Helper()
	if e, in := d.Shelf().Get(c.Key); !in || e.Card != c || e.Seen != seen {
		t.Errorf("P16.2: %s: %v, %v; not %v, seen at %d", where, e, in, c, seen)
	}
}

func TestNew(t *testing.T) {
	for _, c := range []struct {
		node int
		now  int64
	}{{-1, 0}, {api.MaxNodes, 0}, {0, -1}, {0, latest + 1}, {math.MaxInt, 0}, {0, math.MinInt64}, {0, math.MaxInt64}} {
		if desk.New(c.node, c.now) != nil {
			t.Errorf("P16.1: New(%d, %d)", c.node, c.now)
		}
	}
	for _, now := range []int64{0, latest} {
		d := desk.New(api.MaxNodes-1, now)
		if d == nil || d.Stamp() != (api.Stamp{Node: api.MaxNodes - 1}) || d.Shelf().Len() != 0 || d.Recent().Seq() != 0 || d.Guard().This() != 0 {
			t.Fatalf("P16.1: New at %d", now)
		}
	}
	d := desk.New(0, 30)
	d.Guard().Renew()
	d.Guard().Tick(89)
	if d.Guard().This() != 1 {
		t.Error("P16.1: the guard's window begins at now")
	}
	d.Guard().Tick(90)
	if d.Guard().Last() != 1 {
		t.Error("P16.1: the guard's window ends")
	}
}

func TestSet(t *testing.T) {
	d := desk.New(0, 0)
	for i := range api.MaxCards {
		if why := d.Set(lease.Entry{Card: made(strconv.Itoa(i), api.Up, 0, 1, 9, 9)}); why != api.OK || d.Recent().Seq() != int64(i+1) {
			t.Fatalf("P16.1: Set %d: %d", i, int(why))
		}
	}
	if d.Set(lease.Entry{Card: made("x", api.Up, 0, 1, 0, 0)}) != api.ErrFull || d.Recent().Seq() != api.MaxCards {
		t.Error("P16.1: Set on a full shelf")
	}
	if d.Set(lease.Entry{Card: made("3", api.Down, 0, 1, 0, 0)}) != api.OK || d.Recent().Seq() != api.MaxCards+1 {
		t.Error("P16.1: Set of a key that is there")
	}
	if keys, _ := d.Recent().Since(api.MaxCards); len(keys) != 1 || keys[0] != key("3") {
		t.Errorf("P16.1: Set's change: %v", keys)
	}
	if d.Stamp() != (api.Stamp{}) {
		t.Error("P16.1: Set gives no stamp")
	}
}

func TestRegister(t *testing.T) {
	d := desk.New(2, 0)
	a := made("x", api.Up, 0, 30, 5, 1)
	handled(t, "Register", d, register("x", 30), 5, api.OK, a)
	holds(t, "Register", d, a, 5)
	if d.Stamp() != a.Stamp || d.Recent().Seq() != 1 {
		t.Errorf("P16.2: Register: Stamp %v, Seq %d", d.Stamp(), d.Recent().Seq())
	}
	b := made("x", api.Down, 0, api.MaxLease, 5, 2)
	handled(t, "Register twice", d, ask(api.Register, "x", api.MaxLease, api.Down), 3, api.OK, b)
	holds(t, "Register twice", d, b, 3)
	if d.Recent().Seq() != 2 || d.Guard().This() != 0 {
		t.Error("P16.2: Register twice: two changes, no renewal")
	}
	c := made("x", api.Down, api.Out, api.MaxLease, 6, 3)
	handled(t, "Override", d, ask(api.Override, "x", 0, api.Out), 6, api.OK, c)
	e := made("x", api.Up, api.Out, 1, 8, 4)
	handled(t, "Register keeps Over", d, register("x", 1), 8, api.OK, e)
	g := asGone(made("x", api.Up, api.Out, 1, 9, 5))
	handled(t, "Cancel", d, ask(api.Cancel, "x", 0, 0), 9, api.OK, g)
	holds(t, "Cancel", d, g, 9)
	handled(t, "Register of one that is gone", d, register("x", 2), 9, api.OK, made("x", api.Up, 0, 2, 9, 6))
}

func TestRegisterRefuses(t *testing.T) {
	d := desk.New(2, 0)
	for _, m := range []api.Msg{register("x", 0), register("x", -1), register("x", api.MaxLease+1), register("x", math.MinInt64), ask(api.Register, "x", 1, 0), ask(api.Register, "x", 1, api.Out), ask(api.Register, "x", 1, 255)} {
		handled(t, "a wrong Register", d, m, 5, api.ErrArg)
	}
	if d.Shelf().Len() != 0 || d.Stamp() != (api.Stamp{Node: 2}) || d.Recent().Seq() != 0 {
		t.Error("R3: a refused Register changed something")
	}
	for i := range api.MaxCards {
		d.Handle(register(strconv.Itoa(i), 5), 1)
	}
	had := d.Stamp()
	handled(t, "Register on a full shelf", d, register("x", 5), 9, api.ErrFull)
	if d.Stamp() != had || d.Recent().Seq() != api.MaxCards {
		t.Error("P16.2: the stamp is not given where Set refuses")
	}
	handled(t, "Register of one that is there", d, register("7", 5), 9, api.OK, made("7", api.Up, 0, 5, 9, api.MaxCards+1))
}

func TestRenew(t *testing.T) {
	d := desk.New(2, 0)
	handled(t, "Renew of none", d, ask(api.Renew, "x", 0, 0), 5, api.ErrNone)
	d.Handle(register("x", 30), 5)
	c := made("x", api.Up, 0, 30, 5, 1)
	handled(t, "Renew", d, ask(api.Renew, "x", 9, 9), 8, api.OK)
	holds(t, "Renew", d, c, 8)
	handled(t, "Renew at an earlier time", d, ask(api.Renew, "x", 0, 0), 2, api.OK)
	holds(t, "Renew at an earlier time", d, c, 8)
	if d.Guard().This() != 2 || d.Recent().Seq() != 1 || d.Stamp() != c.Stamp {
		t.Error("P16.2: a renewal is counted, and is no change")
	}
	d.Handle(ask(api.Cancel, "x", 0, 0), 9)
	handled(t, "Renew of one that is gone", d, ask(api.Renew, "x", 0, 0), 10, api.ErrNone)
	if d.Guard().This() != 2 {
		t.Error("P16.2: a refused renewal is not counted")
	}
	holds(t, "a refused Renew", d, asGone(made("x", api.Up, 0, 30, 9, 2)), 9)
}

func TestCancelAndOverride(t *testing.T) {
	d := desk.New(2, 0)
	handled(t, "Cancel of none", d, ask(api.Cancel, "x", 0, 0), 5, api.ErrNone)
	handled(t, "Override of none", d, ask(api.Override, "x", 0, 0), 5, api.ErrNone)
	handled(t, "a wrong Override of none", d, ask(api.Override, "x", 0, api.Out+1), 5, api.ErrArg)
	if d.Stamp() != (api.Stamp{Node: 2}) {
		t.Error("P16.2: a stamp was given to none")
	}
	d.Handle(register("x", 30), 5)
	for i := range api.Out + 1 {
		over := api.Out - i
		handled(t, "Override", d, ask(api.Override, "x", 77, over), 6, api.OK, made("x", api.Up, over, 30, 6, int64(i+2)))
	}
	holds(t, "Override", d, made("x", api.Up, 0, 30, 6, 5), 5)
	handled(t, "a wrong Override", d, ask(api.Override, "x", 0, 4), 7, api.ErrArg)
	g := asGone(made("x", api.Up, 0, 30, 7, 6))
	handled(t, "Cancel", d, ask(api.Cancel, "x", 5, 5), 7, api.OK, g)
	handled(t, "Cancel twice", d, ask(api.Cancel, "x", 0, 0), 8, api.ErrNone)
	handled(t, "Override of one that is gone", d, ask(api.Override, "x", 0, 1), 8, api.ErrNone)
	holds(t, "Cancel", d, g, 7)
	if d.Recent().Seq() != 6 || d.Stamp() != g.Stamp {
		t.Errorf("P16.2: six changes: %d, %v", d.Recent().Seq(), d.Stamp())
	}
}

// The next stamp is behind the desk's own last one and behind that of the card that is there.
func TestStamps(t *testing.T) {
	d := desk.New(2, 0)
	there := made("x", api.Up, 0, 30, 50, 9)
	there.Stamp.Node = 4
	d.Set(lease.Entry{Card: there})
	handled(t, "a card with a later stamp", d, register("x", 1), 5, api.OK, made("x", api.Up, 0, 1, 50, 10))
	handled(t, "another card", d, register("y", 1), 6, api.OK, made("y", api.Up, 0, 1, 50, 11))
	early := made("z", api.Up, 0, 1, 3, 99)
	d.Set(lease.Entry{Card: early})
	handled(t, "a card with an earlier stamp", d, register("z", 1), 60, api.OK, made("z", api.Up, 0, 1, 60, 12))
	far := made("f", api.Up, 0, 1, latest+50, 1)
	d.Set(lease.Entry{Card: far})
	handled(t, "Cancel of a card from afar", d, ask(api.Cancel, "f", 0, 0), 60, api.OK, asGone(made("f", api.Up, 0, 1, latest+50, 2)))
}

func TestNowIsHeld(t *testing.T) {
	d := desk.New(2, 0)
	handled(t, "an early now", d, register("x", 1), -5, api.OK, made("x", api.Up, 0, 1, 0, 1))
	holds(t, "an early now", d, made("x", api.Up, 0, 1, 0, 1), 0)
	handled(t, "a late now", d, register("x", 1), math.MaxInt64, api.OK, made("x", api.Up, 0, 1, latest, 2))
	holds(t, "a late now", d, made("x", api.Up, 0, 1, latest, 2), latest)
	handled(t, "a late Cancel", d, ask(api.Cancel, "x", 0, 0), latest+1, api.OK, asGone(made("x", api.Up, 0, 1, latest, 3)))
	holds(t, "a late Cancel", d, asGone(made("x", api.Up, 0, 1, latest, 3)), latest)
}

func TestWrongAsks(t *testing.T) {
	d := desk.New(2, 0)
	d.Handle(register("x", 30), 5)
	for i, m := range []api.Msg{
		{},
		{Kind: api.Push},
		{Kind: api.Answer, Op: api.Renew, Key: key("x"), Tag: 3},
		{Kind: api.Ask, Op: api.Renew, Key: api.Key{App: "A!"}, Tag: 4},
		{Kind: api.Ask, Op: 9, Key: key("x")},
		{Kind: api.Ask, Op: api.Renew, Key: key("x"), Code: 1},
		{Kind: api.Ask, Op: api.Fetch, Key: key("x")},
		{Kind: api.Ask, Op: api.Fetch, Seq: -2},
		{Kind: api.Ask, Op: api.Override, Key: key("x"), Status: 256},
	} {
		handled(t, "wrong ask "+strconv.Itoa(i), d, m, 5, api.ErrArg)
	}
	if d.Guard().This() != 0 || d.Recent().Seq() != 1 {
		t.Error("R3: a refused ask changed something")
	}
}

func TestFetch(t *testing.T) {
	d := desk.New(2, 0)
	d.Handle(register("x", 30), 5)
	d.Handle(register("y", 30), 6)
	x, y := made("x", api.Up, 0, 30, 5, 1), made("y", api.Up, 0, 30, 6, 2)
	sum := seal.Of([]api.Card{x, y})
	for _, c := range []struct {
		seq   int64
		full  bool
		cards []api.Card
	}{{-1, true, []api.Card{x, y}}, {0, false, []api.Card{x, y}}, {1, false, []api.Card{y}}, {2, false, nil}, {3, true, []api.Card{x, y}}, {math.MaxInt64, true, []api.Card{x, y}}} {
		got, changed := d.Handle(fetch(c.seq), 9)
		want := api.Msg{Kind: api.Answer, Tag: 8, Op: api.Fetch, Full: c.full, Seq: 2, Sum: sum, Cards: c.cards}
		if !mail.Same(got, want) || len(changed) != 0 {
			t.Errorf("P16.2: Fetch since %d: %v, not %v", c.seq, got, want)
		}
	}
}

// swept is a desk with n cards of a lease of 10, seen at 0, whose guard protects none any more.
func swept(n int) *desk.Desk {
	d := desk.New(2, 0)
	for i := range n {
		d.Handle(register(string(rune('a'+i)), 10), 0)
	}
	for range n * 6 {
		d.Guard().Renew()
	}
	d.Guard().Tick(api.Window)
	return d
}

func TestSweep(t *testing.T) {
	d := swept(7)
	d.Handle(ask(api.Renew, "a", 0, 0), 55)
	d.Handle(register("b", 30), 20)
	got := d.Sweep(60, 0)
	want := []api.Card{asGone(made("c", api.Up, 0, 10, 60, 9)), asGone(made("d", api.Up, 0, 10, 60, 10))}
	if !card.Same(got, want) {
		t.Errorf("P16.3: Sweep: %v, not %v", got, want)
	}
	holds(t, "Sweep", d, want[0], 60)
	if d.Recent().Seq() != 10 || d.Stamp() != want[1].Stamp || d.Shelf().Live() != 5 {
		t.Errorf("P16.3: Sweep: %d changes, %v", d.Recent().Seq(), d.Stamp())
	}
	got = d.Sweep(61, 0)
	if !card.Same(got, []api.Card{asGone(made("e", api.Up, 0, 10, 61, 11))}) {
		t.Errorf("P16.3: Sweep again: %v", got)
	}
	if got := d.Sweep(61, 61); len(got) != 0 {
		t.Errorf("P16.3: Sweep with much lateness: %v", got)
	}
	if got := d.Sweep(-5, -5); len(got) != 0 {
		t.Errorf("P16.3: Sweep ahead of all time: %v", got)
	}
}

func TestSweepHoldsNow(t *testing.T) {
	d := swept(1)
	if got := d.Sweep(math.MaxInt64, 0); !card.Same(got, []api.Card{asGone(made("a", api.Up, 0, 10, latest, 2))}) {
		t.Errorf("P16.3: Sweep at the end of time: %v", got)
	}
	d = swept(1)
	if got := d.Sweep(math.MaxInt64, latest-10); len(got) != 0 {
		t.Errorf("P16.3: Sweep at the end of time, as late: %v", got)
	}
}

func TestSweepProtects(t *testing.T) {
	d := swept(4)
	d.Guard().Tick(3 * api.Window)
	if got := d.Sweep(1000, 0); len(got) != 0 || d.Shelf().Live() != 4 {
		t.Errorf("P16.3: Sweep while the guard protects: %v", got)
	}
	empty := desk.New(0, 0)
	if got := empty.Sweep(1000, 0); len(got) != 0 {
		t.Errorf("P16.3: Sweep of an empty shelf: %v", got)
	}
}

func TestPurge(t *testing.T) {
	d := desk.New(2, 0)
	for _, id := range []string{"a", "b", "c"} {
		d.Handle(register(id, 10), 0)
	}
	d.Handle(ask(api.Cancel, "a", 0, 0), 10)
	d.Handle(ask(api.Cancel, "c", 0, 0), 11)
	if n := d.Purge(10 + api.Keep); n != 0 {
		t.Errorf("P16.3: Purge of none: %d", n)
	}
	if n := d.Purge(11 + api.Keep); n != 1 || d.Shelf().Len() != 2 {
		t.Errorf("P16.3: Purge: %d", n)
	}
	if _, in := d.Shelf().Get(key("a")); in || d.Recent().Seq() != 5 {
		t.Error("P16.3: who is purged is not there, and that is no change")
	}
	if n := d.Purge(math.MinInt64); n != 0 {
		t.Errorf("P16.3: Purge ahead of all time: %d", n)
	}
	if n := d.Purge(math.MaxInt64); n != 1 || d.Shelf().Len() != 1 {
		t.Errorf("P16.3: Purge at the end of time: %d", n)
	}
}
