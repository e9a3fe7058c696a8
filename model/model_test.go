package model_test

import (
	"fmt"
	"math"
	"testing"

	"frankpledge/api"
	"frankpledge/card"
	"frankpledge/model"
	"frankpledge/world"
)

func same(a, b api.Event) bool {
	return a.Why == b.Why && a.Node == b.Node && a.Code == b.Code && a.Bag == b.Bag && card.Same(a.Found, b.Found)
}

func TestNew(t *testing.T) {
	for _, c := range [][2]int{{0, 0}, {0, 1}, {-1, 1}, {1, -1}, {api.MaxNodes, 1}, {1, math.MaxInt}} {
		if model.New(c[0], c[1]) != nil {
			t.Errorf("P26.1: New(%d, %d)", c[0], c[1])
		}
		if events, why := model.Run(c[0], c[1], []api.Act{{}}); len(events) != 0 || why != api.ErrArg {
			t.Errorf("P26.1: Run(%d, %d): %d", c[0], c[1], int(why))
		}
	}
	m := model.New(2, 4)
	for _, i := range []int{-1, 0, 1, 2, math.MinInt, math.MaxInt} {
		if len(m.Cards(i)) != 0 {
			t.Errorf("P26.1: Cards(%d) of a new one", i)
		}
	}
	if got := m.Do(api.Act{}); !same(got, api.Event{Why: api.ErrArg}) {
		t.Errorf("P26.1: Do of Kind 0: %+v", got)
	}
}

func TestDo(t *testing.T) {
	m := model.New(1, 1)
	found := api.Card{Key: api.Key{App: "app0", ID: "id0"}, Status: api.Up, Lease: 30, Stamp: api.Stamp{N: 1}}
	for i, c := range []struct {
		a    api.Act
		want api.Event
	}{
		{api.Act{Kind: api.Do, A: 1, Op: api.Register, N: 30, Status: api.Up}, api.Event{}},
		{api.Act{Kind: api.Tick, A: 1, N: 1}, api.Event{Node: 1, Bag: 1}},
		{api.Act{Kind: api.Twice}, api.Event{Bag: 2}},
		{api.Act{Kind: api.Cut, A: 0, B: 1}, api.Event{Bag: 2}},
		{api.Act{Kind: api.Deliver}, api.Event{Why: api.ErrCut, Bag: 2}},
		{api.Act{Kind: api.Heal, A: 0, B: 1}, api.Event{Bag: 2}},
		{api.Act{Kind: api.Drop, N: 1}, api.Event{Bag: 1}},
		{api.Act{Kind: api.Deliver}, api.Event{Bag: 1}},
		{api.Act{Kind: api.Deliver}, api.Event{Node: 1}},
		{api.Act{Kind: api.Tick, A: 1, N: 1}, api.Event{Node: 1, Bag: 1}},
		{api.Act{Kind: api.Deliver}, api.Event{Bag: 1}},
		{api.Act{Kind: api.Deliver}, api.Event{Node: 1}},
		{api.Act{Kind: api.Look, A: 1, App: "app0"}, api.Event{Found: []api.Card{found}}},
		{api.Act{Kind: api.Crash}, api.Event{}},
		{api.Act{Kind: api.Crash, A: 1}, api.Event{Why: api.ErrIndex}},
		{api.Act{Kind: api.Tick, A: 1, N: 9}, api.Event{Node: 1, Bag: 1}},
		{api.Act{Kind: api.Deliver}, api.Event{Bag: 1}},
		{api.Act{Kind: api.Deliver}, api.Event{Node: 1, Code: int(api.ErrNone)}},
	} {
		if got := m.Do(c.a); !same(got, c.want) {
			t.Errorf("P26.1: act %d: %+v, not %+v", i, got, c.want)
		}
		if i == 7 && !card.Same(m.Cards(0), []api.Card{found}) {
			t.Errorf("P26.1: Cards: %v", m.Cards(0))
		}
	}
}

func TestRun(t *testing.T) {
	acts := make([]api.Act, api.MaxScript+5)
	for i := range acts {
		acts[i] = api.Act{Kind: api.Tick, A: i % 2, N: 1}
	}
	events, why := model.Run(2, 0, acts)
	if len(events) != api.MaxScript || why != api.OK {
		t.Errorf("P26.1: Run of too many: %d, %d", len(events), int(why))
	}
	m := model.New(2, 0)
	for i, e := range events {
		if want := m.Do(acts[i]); !same(e, want) {
			t.Errorf("P26.1: Run, event %d: %+v, not %+v", i, e, want)
		}
	}
	if events, why := model.Run(1, 0, nil); len(events) != 0 || why != api.OK {
		t.Errorf("P26.1: Run of nothing: %d", int(why))
	}
}

// dice throws the same numbers each time.
type dice uint64

// throw tells a number from 0 on, below n.
func (d *dice) throw(n int) int {
	*d = *d*6364136223846793005 + 1442695040888963407
	return int(uint64(*d)>>33) % n
}

// act throws an act: mostly one that does something, now and then a wrong one.
func (d *dice) act(nodes, bag int) api.Act {
	node, other := d.throw(nodes+2)-1, d.throw(nodes+2)-1
	letter := int64(d.throw(bag+2)) - 1
	switch k := d.throw(40); {
	case k < 14:
		return api.Act{Kind: api.Tick, A: node, N: []int64{1, 1, 2, 5, 10, 20, 60, 0}[d.throw(8)]}
	case k < 25:
		return api.Act{Kind: api.Deliver, N: letter}
	case k < 27:
		return api.Act{Kind: api.Drop, N: letter}
	case k < 29:
		return api.Act{Kind: api.Twice, N: letter}
	case k < 30:
		return api.Act{Kind: api.Cut, A: node, B: other}
	case k < 31:
		return api.Act{Kind: api.Heal, A: node, B: other}
	case k < 32 && d.throw(4) == 0:
		return api.Act{Kind: api.Crash, A: node}
	case k < 37:
		return api.Act{Kind: api.Do, A: node, Op: []int{api.Register, api.Register, api.Cancel, api.Override, api.Fetch}[d.throw(5)], N: int64(d.throw(60)), Status: d.throw(4)}
	case k < 39:
		return api.Act{Kind: api.Look, A: node, App: fmt.Sprint("app", d.throw(3))}
	}
	return api.Act{Kind: d.throw(13) - 1, A: node, B: other, N: letter, App: "app0"}
}

// P26.2, W1: of each script world and model tell the same.
func TestWorldAndModelTellTheSame(t *testing.T) {
	for seed := range 150 {
		d := dice(seed)
		servers := 1 + d.throw(4)
		clients := d.throw(api.MaxNodes - servers + 1)
		w, m := world.New(servers, clients), model.New(servers, clients)
		for i := range 400 {
			a := d.act(servers+clients, w.Net().Len())
			if got, want := m.Do(a), w.Do(a); !same(got, want) {
				t.Fatalf("P26.2: seed %d, act %d, %+v: the model tells %+v, the world %+v", seed, i, a, got, want)
			}
		}
		for i := range servers {
			if !card.Same(m.Cards(i), w.Server(i).Desk().Shelf().Cards()) {
				t.Fatalf("P26.2: seed %d: server %d has other cards", seed, i)
			}
		}
	}
}
