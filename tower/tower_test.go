package tower_test

import (
	"bytes"
	"fmt"
	"math"
	"slices"
	"testing"

	"frankpledge/api"
	"frankpledge/card"
	"frankpledge/lease"
	"frankpledge/net"
	"frankpledge/tower"
	"frankpledge/watch"
	"frankpledge/world"
)

func tick(node int, n int64) api.Act { return api.Act{Kind: api.Tick, A: node, N: n} }

// letters puts so many letters that say nothing on their way.
func letters(w *world.World, n int) {
	for range n {
		w.Net().Send(net.Letter{From: 0, To: 0})
	}
}

// set puts a card on a server's shelf.
func set(w *world.World, server int, id string, t int64) {
	c := api.Card{Key: api.Key{App: "a", ID: id}, Status: api.Up, Lease: 999, Stamp: api.Stamp{T: t}}
	w.Server(server).Desk().Set(lease.Entry{Card: c})
}

func TestDrain(t *testing.T) {
	if n, all := tower.Drain(nil, 5); n != 0 || all {
		t.Error("R1: Drain of nil")
	}
	w := world.New(2, 0)
	for _, most := range []int{0, 5, -1, math.MinInt} {
		if n, all := tower.Drain(w, most); n != 0 || !all {
			t.Errorf("P28.1: Drain of nothing: %d, %v", n, all)
		}
	}
	letters(w, 5)
	for _, c := range []struct {
		most, n int
		all     bool
	}{{-3, 0, false}, {0, 0, false}, {2, 2, false}, {3, 3, true}, {9, 0, true}} {
		if n, all := tower.Drain(w, c.most); n != c.n || all != c.all {
			t.Errorf("P28.1: Drain of %d: %d, %v", c.most, n, all)
		}
	}
	letters(w, 3)
	if n, all := tower.Drain(w, math.MaxInt); n != 3 || !all {
		t.Errorf("P28.1: Drain of all: %d, %v", n, all)
	}
	set(w, 0, "x", 1)
	w.Do(tick(1, 15))
	if n, all := tower.Drain(w, 9); n != 2 || !all || !watch.Alike(w) {
		t.Errorf("P28.1: Drain of a Digest, and of what comes of it: %d, %v", n, all)
	}
}

func TestDrainOfTheParted(t *testing.T) {
	w := world.New(3, 0)
	letters(w, 2)
	w.Net().Send(net.Letter{From: 2, To: 1})
	letters(w, 2)
	w.Net().Cut(1, 2)
	if n, all := tower.Drain(w, 9); n != 2 || all || w.Net().Len() != 3 {
		t.Errorf("P28.1: Drain up to a letter between the parted: %d, %v", n, all)
	}
	if n, all := tower.Drain(w, 9); n != 0 || all || w.Net().Len() != 3 {
		t.Errorf("P28.1: Drain from a letter between the parted: %d, %v", n, all)
	}
}

// times tells each server's Now.
func times(w *world.World) string {
	var l []int64
	for i := 0; w.Server(i) != nil; i++ {
		l = append(l, w.Server(i).Now())
	}
	return fmt.Sprint(l)
}

func TestRound(t *testing.T) {
	if tower.Round(nil) {
		t.Error("R1: Round of nil")
	}
	w := world.New(3, 1)
	w.Do(tick(1, 14))
	w.Do(tick(2, 16))
	if !tower.Round(w) || times(w) != "[15 15 30]" {
		t.Errorf("P28.1: Round: %s", times(w))
	}
	if !tower.Round(w) || times(w) != "[30 30 45]" || w.Net().Len() != 0 {
		t.Errorf("P28.1: Round again: %s", times(w))
	}
	if one := world.New(1, 0); !tower.Round(one) || times(one) != "[15]" {
		t.Errorf("P28.1: Round of one: %s", times(one))
	}
}

func TestRoundOfTheParted(t *testing.T) {
	w := world.New(3, 0)
	w.Net().Cut(0, 1)
	if tower.Round(w) || times(w) != "[15 15 15]" {
		t.Errorf("P28.1: Round goes on behind a Drain that tells false: %s", times(w))
	}
	w.Net().Heal(0, 1)
	if !tower.Round(w) || w.Net().Len() != 0 || times(w) != "[30 30 30]" {
		t.Errorf("P28.1: Round of the healed: %s, %d under way", times(w), w.Net().Len())
	}
}

func TestSettle(t *testing.T) {
	if tower.Settle(nil, 0) {
		t.Error("R1: Settle of nil")
	}
	w := world.New(3, 0)
	for _, rounds := range []int{-1, 2*api.MaxNodes + 1, math.MinInt, math.MaxInt} {
		if tower.Settle(w, rounds) || times(w) != "[0 0 0]" {
			t.Errorf("P28.1: Settle by %d: %s", rounds, times(w))
		}
	}
	if !tower.Settle(w, 0) || times(w) != "[0 0 0]" {
		t.Error("P28.1: Settle by no rounds, of those that are alike")
	}
	set(w, 0, "x", 1)
	if tower.Settle(w, 0) {
		t.Error("P28.1: Settle by no rounds, of those that are not alike")
	}
	if !tower.Settle(w, 2) || times(w) != "[30 30 30]" {
		t.Errorf("P28.1: Settle by two rounds: %s", times(w))
	}
	if one := world.New(1, 0); !tower.Settle(one, 2*api.MaxNodes) || times(one) != "[180]" {
		t.Errorf("P28.1: Settle of one: %s", times(one))
	}
	w.Net().Cut(0, 2)
	if tower.Settle(w, 5) || times(w) != "[45 45 45]" {
		t.Errorf("P28.1: Settle stops behind a Round that tells false: %s", times(w))
	}
}

func TestActs(t *testing.T) {
	if len(tower.Acts(nil, 1)) != 0 {
		t.Error("R1: Acts of nil")
	}
	w := world.New(2, 0)
	for _, rounds := range []int{0, -1, 2*api.MaxNodes + 1, math.MinInt, math.MaxInt} {
		if l := tower.Acts(w, rounds); len(l) != 0 {
			t.Errorf("P28.1: Acts by %d: %d", rounds, len(l))
		}
	}
	w.Do(tick(0, 13))
	w.Do(tick(1, 14))
	set(w, 1, "x", 1)
	want := []api.Act{
		tick(0, 1),
		tick(0, 1), {Kind: api.Deliver}, {Kind: api.Deliver}, // a Digest of nothing, and the Push of x that it makes
		tick(1, 1), {Kind: api.Deliver}, // a Digest of x
	}
	if got := tower.Acts(w, 1); !slices.Equal(got, want) {
		t.Errorf("P28.1: Acts: %v, not %v", got, want)
	}
	if times(w) != "[13 14]" || w.Net().Len() != 0 || watch.Alike(w) {
		t.Error("P28.1: Acts does nothing")
	}
}

// dice throws the same numbers each time.
type dice uint64

// throw tells a number from 0 on, below n.
func (d *dice) throw(n int) int {
	*d = *d*6364136223846793005 + 1442695040888963407
	return int(uint64(*d)>>33) % n
}

// act throws an act of any kind.
func (d *dice) act(nodes, bag int) api.Act {
	node, other := d.throw(nodes), d.throw(nodes)
	letter := int64(d.throw(bag + 1))
	switch k := d.throw(30); {
	case k < 12:
		return tick(node, []int64{1, 1, 2, 5, 10, 20}[d.throw(6)])
	case k < 22:
		return api.Act{Kind: api.Deliver, N: letter}
	case k < 23:
		return api.Act{Kind: api.Drop, N: letter}
	case k < 24:
		return api.Act{Kind: api.Twice, N: letter}
	case k < 25:
		return api.Act{Kind: api.Cut, A: node, B: other}
	case k < 26:
		return api.Act{Kind: api.Heal, A: node, B: other}
	case k < 27 && d.throw(5) == 0:
		return api.Act{Kind: api.Crash, A: node}
	case k < 29:
		return api.Act{Kind: api.Do, A: node, Op: []int{api.Register, api.Cancel, api.Override}[d.throw(3)], N: int64(20 + d.throw(60)), Status: 1 + d.throw(2)}
	}
	return api.Act{Kind: api.Look, A: node, App: "app0"}
}

func sameEvent(a, b api.Event) bool {
	return a.Why == b.Why && a.Node == b.Node && a.Code == b.Code && a.Bag == b.Bag && card.Same(a.Found, b.Found)
}

// goOn asks that two worlds tell the same of the same acts.
func goOn(t *testing.T, where string, d *dice, a, b *world.World, acts int) {
	t.Helper()
	for i := range acts {
		act := d.act(a.Nodes(), a.Net().Len())
		if x, y := a.Do(act), b.Do(act); !sameEvent(x, y) {
			t.Fatalf("%s, act %d, %+v: %+v and %+v", where, i, act, x, y)
		}
	}
	alike(t, where, a, b)
}

// alike asks that two worlds have the same servers, clients and letters.
func alike(t *testing.T, where string, a, b *world.World) {
	t.Helper()
	for i := 0; a.Server(i) != nil; i++ {
		x, y := a.Server(i).Desk(), b.Server(i).Desk()
		if !lease.Same(x.Shelf().All(), y.Shelf().All()) || x.Stamp() != y.Stamp() || a.Server(i).Now() != b.Server(i).Now() {
			t.Fatalf("%s: server %d has other entries", where, i)
		}
		for n := range x.Recent().Seq() + 1 {
			k, _ := x.Recent().Since(n)
			l, _ := y.Recent().Since(n)
			if !slices.Equal(k, l) {
				t.Fatalf("%s: server %d has other changes", where, i)
			}
		}
	}
	for i := 0; a.Client(i) != nil; i++ {
		x, y := a.Client(i), b.Client(i)
		if !card.Same(x.Cache().Cards(), y.Cache().Cards()) || x.Cache().Since() != y.Cache().Since() || x.Server() != y.Server() || x.Waits() != y.Waits() || x.Known() != y.Known() {
			t.Fatalf("%s: client %d remembers something else", where, i)
		}
	}
	same := func(l, m net.Letter) bool { return l.From == m.From && l.To == m.To && bytes.Equal(l.B, m.B) }
	if !slices.EqualFunc(a.Net().All(), b.Net().All(), same) {
		t.Fatalf("%s: other letters are under way", where)
	}
}

// Acts leaves the world as it is, and tells what Settle does.
func TestActsAndSettle(t *testing.T) {
	for seed := range 60 {
		d := dice(seed)
		servers := 1 + d.throw(4)
		clients := d.throw(api.MaxNodes - servers + 1)
		a, b := world.New(servers, clients), world.New(servers, clients)
		for range 12 {
			goOn(t, fmt.Sprint("P28.1: a world that was asked for Acts, and one that was not, seed ", seed), &d, a, b, 30)
			tower.Acts(a, d.throw(3))
			alike(t, fmt.Sprint("P28.1: a world that was asked for Acts just now, seed ", seed), a, b)
		}
		rounds := d.throw(5)
		acts := tower.Acts(a, rounds)
		tower.Settle(a, rounds)
		for _, act := range acts {
			b.Do(act)
		}
		goOn(t, fmt.Sprint("P28.1: a world that was settled, and one where the Acts were done, seed ", seed), &d, a, b, 150)
	}
}

// What a client is told, and who is purged, in the acts that Acts tells leaves the world as it is, too.
func TestActsTellsNobody(t *testing.T) {
	w := world.New(1, 1)
	set(w, 0, "a", 1)
	set(w, 0, "b", 1)
	w.Do(tick(1, 1))
	tower.Drain(w, 2)
	set(w, 0, "a", 2)
	w.Do(tick(1, 25))
	tower.Drain(w, 1)
	held := w.Client(0).Cache().Cards()
	if acts := tower.Acts(w, 1); len(held) != 2 || w.Net().Len() != 1 || !slices.Contains(acts, api.Act{Kind: api.Deliver}) {
		t.Fatalf("P28.1: a delta is under way: %v", acts)
	}
	if !card.Same(w.Client(0).Cache().Cards(), held) {
		t.Error("P28.1: Acts told a client")
	}
	w.Server(0).Desk().Set(lease.Entry{Card: api.Card{Key: api.Key{App: "a", ID: "0"}, Gone: true}})
	w.Do(tick(0, 419))
	entries := w.Server(0).Desk().Shelf().All()
	tower.Acts(w, 1)
	if !lease.Same(w.Server(0).Desk().Shelf().All(), entries) {
		t.Error("P28.1: Acts purged somebody")
	}
}

// unrest is a world whose servers were asked this and that, with what they sent lost, late and twice; no lease runs out in it.
func unrest(d *dice) *world.World {
	servers := 1 + d.throw(api.MaxNodes)
	w := world.New(servers, 0)
	for range 80 {
		i := d.throw(servers)
		switch d.throw(8) {
		case 0, 1, 2:
			m := api.Msg{Kind: api.Ask, Op: []int{api.Register, api.Register, api.Cancel, api.Override}[d.throw(4)], Key: api.Key{App: "a", ID: fmt.Sprint("k", d.throw(10))}, N: api.MaxLease, Status: 1 + d.throw(2)}
			w.Server(i).Receive(0, m)
		case 3, 4:
			w.Do(tick(i, int64(1+d.throw(3))))
		case 5:
			w.Do(api.Act{Kind: api.Deliver, N: int64(d.throw(w.Net().Len() + 1))})
		case 6:
			w.Do(api.Act{Kind: api.Drop, N: int64(d.throw(w.Net().Len() + 1))})
		case 7:
			w.Do(api.Act{Kind: []int{api.Twice, api.Twice, api.Crash}[d.throw(3)], A: i, N: int64(d.throw(w.Net().Len() + 1))})
		}
	}
	return w
}

// P28.2, W4: it comes together.
func TestItComesTogether(t *testing.T) {
	for seed := range 300 {
		d := dice(1000 + seed)
		w := unrest(&d)
		servers := w.Nodes()
		whole := watch.Whole(w)
		if !tower.Settle(w, 2*servers) {
			t.Fatalf("P28.2: seed %d: %d servers are not alike", seed, servers)
		}
		for i := range servers {
			if got := w.Server(i).Desk().Shelf().Cards(); !card.Same(got, whole) {
				t.Fatalf("P28.2: seed %d: server %d of %d has %v, not %v", seed, i, servers, got, whole)
			}
		}
	}
}

// W5: what a client remembers, once it was told by a feed whose sum is right, is what its server shows.
func TestWhatIsShown(t *testing.T) {
	told := 0
	for seed := range 100 {
		d := dice(seed)
		servers := 1 + d.throw(3)
		w := world.New(servers, 1)
		for range 200 {
			w.Do(d.act(w.Nodes(), w.Net().Len()))
		}
		for range 40 {
			for w.Net().Len() > 0 {
				w.Do(api.Act{Kind: api.Drop})
			}
			w.Do(tick(servers, 1))
			fetched := w.Client(0).Cache().Since()
			w.Do(api.Act{Kind: api.Deliver})
			e := w.Do(api.Act{Kind: api.Deliver})
			if e.Node != servers || e.Why != api.OK || e.Code != 0 || w.Client(0).Cache().Since() == fetched {
				continue
			}
			told++
			if !watch.Held(w, 0) {
				t.Fatalf("W5: seed %d: a client that was told holds something else", seed)
			}
		}
	}
	if told < 50 {
		t.Errorf("W5: clients were told %d times: too few to tell", told)
	}
}
