package world_test

import (
	"fmt"
	"math"
	"testing"

	"frankpledge/api"
	"frankpledge/card"
	"frankpledge/frame"
	"frankpledge/lease"
	"frankpledge/mail"
	"frankpledge/net"
	"frankpledge/world"
)

func tick(node int, n int64) api.Act { return api.Act{Kind: api.Tick, A: node, N: n} }

func deliver(i int64) api.Act { return api.Act{Kind: api.Deliver, N: i} }

func register(node int, n int64, status int) api.Act {
	return api.Act{Kind: api.Do, A: node, Op: api.Register, N: n, Status: status}
}

// does asks for just this Event.
func does(t *testing.T, where string, w *world.World, a api.Act, want api.Event) {
	t.Helper()
	got := w.Do(a)
	if got.Why != want.Why || got.Node != want.Node || got.Code != want.Code || got.Bag != want.Bag || !card.Same(got.Found, want.Found) {
		t.Errorf("P24.1: %s: %+v, not %+v", where, got, want)
	}
	if got.Bag != w.Net().Len() {
		t.Errorf("P24.1: %s: Bag %d, %d under way", where, got.Bag, w.Net().Len())
	}
}

// under reads the i-th letter that is under way.
func under(t *testing.T, w *world.World, i int) (net.Letter, api.Msg) {
	t.Helper()
	l := w.Net().All()[i]
	b, why := frame.One(l.B)
	if why != api.OK {
		t.Fatalf("P24.1: letter %d is no frame: %d", i, int(why))
	}
	m, err := mail.Read(b)
	if err != nil {
		t.Fatalf("P24.1: letter %d is no message: %v", i, err)
	}
	return l, m
}

func TestNew(t *testing.T) {
	for _, c := range [][2]int{{0, 1}, {0, 0}, {-1, 2}, {1, -1}, {api.MaxNodes + 1, 0}, {1, api.MaxNodes}, {api.MaxNodes, 1}, {math.MaxInt, math.MaxInt}, {1, math.MaxInt}, {math.MinInt, math.MaxInt}} {
		if world.New(c[0], c[1]) != nil {
			t.Errorf("P24.1: New(%d, %d)", c[0], c[1])
		}
	}
	for servers := 1; servers <= api.MaxNodes; servers++ {
		for clients := 0; servers+clients <= api.MaxNodes; clients++ {
			w := world.New(servers, clients)
			if w == nil || w.Nodes() != servers+clients || w.Net().Len() != 0 {
				t.Fatalf("P24.1: New(%d, %d)", servers, clients)
			}
			for i := -1; i <= api.MaxNodes; i++ {
				if (w.Server(i) != nil) != (i >= 0 && i < servers) || (w.Client(i) != nil) != (i >= 0 && i < clients) {
					t.Errorf("P24.1: Server(%d), Client(%d) of New(%d, %d)", i, i, servers, clients)
				}
			}
		}
	}
	w := world.New(1, 1)
	for _, i := range []int{math.MinInt, math.MaxInt} {
		if w.Server(i) != nil || w.Client(i) != nil {
			t.Errorf("P24.1: Server, Client of %d", i)
		}
	}
}

func TestWhoIsThere(t *testing.T) {
	w := world.New(2, 4)
	for j, want := range []api.Key{{App: "app0", ID: "id0"}, {App: "app0", ID: "id1"}, {App: "app1", ID: "id2"}, {App: "app1", ID: "id3"}} {
		if got := w.Client(j).Server(); got != j%2 {
			t.Errorf("P24.1: client %d asks %d", j, got)
		}
		w.Client(j).Want(api.Cancel, 0, 0)
		sent := w.Client(j).Tick(1)
		if len(sent) != 1 || sent[0].M.Key != want {
			t.Errorf("P24.1: client %d: %v, not %v", j, sent, want)
		}
	}
}

func TestClientsServersRound(t *testing.T) {
	w := world.New(3, 2)
	for j, want := range []string{"[0 1 2 0]", "[1 2 0 1]"} {
		c := w.Client(j)
		var asked []int
		for range 4 {
			asked = append(asked, c.Server())
			c.Want(api.Cancel, 0, 0)
			for before := c.Server(); c.Server() == before; {
				c.Tick(1)
			}
		}
		if got := fmt.Sprint(asked); got != want {
			t.Errorf("P24.1: client %d asks %s, not %s", j, got, want)
		}
	}
}

func TestPeers(t *testing.T) {
	w := world.New(3, 1)
	var to []string
	for i := range 3 {
		for range 3 {
			for _, s := range w.Server(i).Tick(15) {
				to = append(to, fmt.Sprint(i, ">", s.To))
			}
		}
	}
	if got := fmt.Sprint(to); got != "[0>1 0>2 0>1 1>0 1>2 1>0 2>0 2>1 2>0]" {
		t.Errorf("P24.1: each other's peers: %s", got)
	}
}

func TestTick(t *testing.T) {
	w := world.New(2, 1)
	for _, a := range []api.Act{tick(-1, 1), tick(3, 1), tick(math.MaxInt, 1), tick(math.MinInt, 1)} {
		does(t, "Tick of no node", w, a, api.Event{Why: api.ErrIndex})
	}
	for _, n := range []int64{0, -1, api.MaxStep + 1, math.MinInt64} {
		does(t, "Tick by a wrong number", w, tick(1, n), api.Event{Why: api.ErrArg})
	}
	does(t, "Tick of a client", w, tick(2, 1), api.Event{Node: 2, Bag: 1})
	l, m := under(t, w, 0)
	if l.From != 2 || l.To != 0 || m.Op != api.Fetch || m.Tag != 1 || m.Seq != -1 {
		t.Errorf("P24.1: its Fetch: from %d to %d: %v", l.From, l.To, m)
	}
	does(t, "a wrong Tick, with a letter under way", w, tick(2, 0), api.Event{Why: api.ErrArg, Bag: 1})
	does(t, "Tick of a server", w, tick(1, 45), api.Event{Node: 1, Bag: 4})
	l, m = under(t, w, 3)
	if w.Server(1).Now() != 45 || w.Server(0).Now() != 0 || l.From != 1 || l.To != 0 || m.Kind != api.Digest {
		t.Errorf("P24.1: its Digests: now %d, from %d to %d: %v", w.Server(1).Now(), l.From, l.To, m)
	}
}

func TestDeliver(t *testing.T) {
	w := world.New(1, 1)
	does(t, "Deliver of none", w, deliver(0), api.Event{Why: api.ErrIndex})
	w.Do(tick(1, 1))
	does(t, "Deliver of none, with one there", w, deliver(1), api.Event{Why: api.ErrIndex, Bag: 1})
	does(t, "Deliver of a Fetch", w, deliver(0), api.Event{Node: 0, Bag: 1})
	l, m := under(t, w, 0)
	if l.From != 0 || l.To != 1 || m.Kind != api.Answer || !m.Full || m.Sum != 17 || m.Tag != 1 {
		t.Errorf("P24.1: its Answer: %v", m)
	}
	does(t, "once more", w, api.Act{Kind: api.Twice}, api.Event{Bag: 2})
	does(t, "Deliver of the Answer", w, deliver(0), api.Event{Node: 1, Bag: 1})
	does(t, "Deliver of the Answer again", w, deliver(0), api.Event{Node: 1, Code: -1})
	if w.Client(0).Cache().Since() != 0 {
		t.Error("P24.1: the client was told")
	}
	w.Do(register(1, 30, api.Up))
	w.Do(tick(1, 1))
	does(t, "Deliver of a Register", w, deliver(0), api.Event{Node: 0, Bag: 1})
	does(t, "Deliver of its Answer", w, deliver(0), api.Event{Node: 1})
	if !w.Client(0).Known() {
		t.Error("P24.1: the client is known")
	}
	w.Server(0).Crash()
	w.Do(tick(1, 10))
	w.Do(deliver(0))
	does(t, "Deliver of a refusal", w, deliver(0), api.Event{Node: 1, Code: int(api.ErrNone)})
}

func TestDeliverBroken(t *testing.T) {
	w := world.New(1, 1)
	good, _ := frame.Bytes([]byte{5, 0})
	broken := append([]byte(nil), good...)
	broken[len(broken)-1]++
	odd, _ := frame.Bytes([]byte{9})
	wrong, _ := frame.Bytes([]byte{5, 1, 1, 'A', 1, 'b'})
	for i, c := range []struct {
		b    []byte
		code api.Errno
	}{{nil, api.ErrForm}, {[]byte{255, 0, 0, 0}, api.ErrLong}, {broken, api.ErrSum}, {odd, api.ErrForm}, {wrong, api.ErrArg}, {good, api.OK}} {
		w.Net().Send(net.Letter{From: 1, To: 0, B: c.b})
		does(t, fmt.Sprint("Deliver of broken bytes ", i), w, deliver(0), api.Event{Node: 0, Code: int(c.code)})
		w.Net().Send(net.Letter{From: 0, To: 1, B: c.b})
		code := int(c.code)
		if code == 0 {
			code = -1
		}
		does(t, fmt.Sprint("Deliver of broken bytes to a client ", i), w, deliver(0), api.Event{Node: 1, Code: code})
	}
}

func TestNetActs(t *testing.T) {
	w := world.New(2, 1)
	w.Do(tick(2, 1))
	for _, kind := range []int{api.Drop, api.Twice} {
		does(t, "Drop, Twice of none", w, api.Act{Kind: kind, N: 1}, api.Event{Why: api.ErrIndex, Bag: 1})
		does(t, "Drop, Twice of none", w, api.Act{Kind: kind, N: -1}, api.Event{Why: api.ErrIndex, Bag: 1})
	}
	for _, kind := range []int{api.Cut, api.Heal} {
		for _, p := range [][2]int{{0, 0}, {-1, 0}, {0, 3}} {
			does(t, "Cut, Heal of no nodes", w, api.Act{Kind: kind, A: p[0], B: p[1]}, api.Event{Why: api.ErrIndex, Bag: 1})
		}
	}
	does(t, "Cut", w, api.Act{Kind: api.Cut, A: 0, B: 2}, api.Event{Bag: 1})
	does(t, "Deliver between the parted", w, deliver(0), api.Event{Why: api.ErrCut, Bag: 1})
	does(t, "Twice", w, api.Act{Kind: api.Twice}, api.Event{Bag: 2})
	does(t, "Heal", w, api.Act{Kind: api.Heal, A: 2, B: 0}, api.Event{Bag: 2})
	does(t, "Drop", w, api.Act{Kind: api.Drop, N: 1}, api.Event{Bag: 1})
	does(t, "Deliver", w, deliver(0), api.Event{Bag: 1})
}

func TestFullBag(t *testing.T) {
	w := world.New(2, 1)
	for range api.MaxBag - 1 {
		w.Net().Send(net.Letter{From: 0, To: 1, B: []byte{1}})
	}
	does(t, "what does not go into the bag is lost", w, tick(0, 30), api.Event{Node: 0, Bag: api.MaxBag})
	does(t, "Twice into a full bag", w, api.Act{Kind: api.Twice}, api.Event{Why: api.ErrFull, Bag: api.MaxBag})
	if _, m := under(t, w, api.MaxBag-1); m.Kind != api.Digest {
		t.Errorf("P24.1: the first of what was sent: %v", m)
	}
}

func TestWhatCannotBeWritten(t *testing.T) {
	w := world.New(2, 1)
	w.Do(tick(0, 14))
	w.Server(0).Desk().Set(lease.Entry{Card: api.Card{Key: api.Key{App: "A"}}})
	w.Server(0).Receive(2, api.Msg{Kind: api.Ask, Op: api.Register, Key: api.Key{App: "a", ID: "b"}, N: 5, Status: api.Up})
	does(t, "a Digest that is not right is lost, a Push behind it is not", w, tick(0, 1), api.Event{Node: 0, Bag: 1})
	if _, m := under(t, w, 0); m.Kind != api.Push {
		t.Errorf("P24.1: what was sent: %v", m)
	}
}

func TestCrash(t *testing.T) {
	w := world.New(2, 1)
	for _, node := range []int{-1, 2, 3, math.MaxInt} {
		does(t, "Crash of no server", w, api.Act{Kind: api.Crash, A: node}, api.Event{Why: api.ErrIndex})
	}
	w.Server(1).Receive(2, api.Msg{Kind: api.Ask, Op: api.Register, Key: api.Key{App: "a", ID: "b"}, N: 5, Status: api.Up})
	w.Do(tick(1, 3))
	does(t, "Crash", w, api.Act{Kind: api.Crash, A: 1}, api.Event{Node: 1, Bag: 1})
	if w.Server(1).Desk().Shelf().Len() != 0 || w.Server(1).Now() != 3 {
		t.Error("P24.1: a crashed server")
	}
	does(t, "Tick behind a Crash", w, tick(1, 12), api.Event{Node: 1, Bag: 2})
}

func TestWantAndLook(t *testing.T) {
	w := world.New(1, 2)
	does(t, "Do of a wrong want", w, register(1, 0, api.Up), api.Event{Why: api.ErrArg})
	does(t, "Do of a wrong Op", w, api.Act{Kind: api.Do, A: 1, Op: api.Fetch, N: 1}, api.Event{Why: api.ErrArg})
	does(t, "Look of nothing", w, api.Act{Kind: api.Look, A: 2, App: "app0"}, api.Event{})
	does(t, "Do", w, register(1, 30, api.Up), api.Event{})
	for _, a := range []api.Act{tick(1, 1), deliver(0), deliver(0), tick(2, 1), deliver(0), deliver(0)} {
		w.Do(a)
	}
	found := api.Card{Key: api.Key{App: "app0", ID: "id0"}, Status: api.Up, Lease: 30, Stamp: api.Stamp{N: 1}}
	does(t, "Look", w, api.Act{Kind: api.Look, A: 2, App: "app0"}, api.Event{Found: []api.Card{found}})
	does(t, "Look for another", w, api.Act{Kind: api.Look, A: 2, App: "app1"}, api.Event{})
	does(t, "Look of who was told nothing", w, api.Act{Kind: api.Look, A: 1, App: "app0"}, api.Event{})
	for range 8 {
		does(t, "Do", w, api.Act{Kind: api.Do, A: 1, Op: api.Cancel}, api.Event{})
	}
	does(t, "Do of a ninth want", w, api.Act{Kind: api.Do, A: 1, Op: api.Override}, api.Event{Why: api.ErrFull})
	for _, node := range []int{-1, 3, math.MinInt, math.MaxInt} {
		does(t, "Do of no client", w, register(node, 30, api.Up), api.Event{Why: api.ErrIndex})
		does(t, "Look of no client", w, api.Act{Kind: api.Look, A: node, App: "app0"}, api.Event{Why: api.ErrIndex})
	}
}

// Clients are nodes behind the servers: no server's number is a client's.
func TestServersAreNoClients(t *testing.T) {
	w := world.New(2, 1)
	for _, node := range []int{0, 1} {
		does(t, "Do of a server", w, register(node, 30, api.Up), api.Event{Why: api.ErrIndex})
		does(t, "Look of a server", w, api.Act{Kind: api.Look, A: node, App: "app0"}, api.Event{Why: api.ErrIndex})
	}
	does(t, "Do of a client", w, register(2, 30, api.Up), api.Event{})
}

func TestOtherKinds(t *testing.T) {
	w := world.New(1, 1)
	w.Do(tick(1, 1))
	for _, kind := range []int{0, -1, 10, math.MaxInt, math.MinInt} {
		does(t, "another Kind", w, api.Act{Kind: kind, N: 1}, api.Event{Why: api.ErrArg, Bag: 1})
	}
}
