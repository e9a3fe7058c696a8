package server_test

import (
	"fmt"
	"math"
	"testing"

	"frankpledge/api"
	"frankpledge/card"
	"frankpledge/lease"
	"frankpledge/mail"
	"frankpledge/server"
)

func key(id string) api.Key { return api.Key{App: "a", ID: id} }

func ask(op int, id string, n int64, status int) api.Msg {
	return api.Msg{Kind: api.Ask, Tag: 7, Op: op, Key: key(id), N: n, Status: status}
}

func register(id string, n int64) api.Msg { return ask(api.Register, id, n, api.Up) }

// made is a card of some node with a stamp of this T.
func made(id string, t int64) api.Card {
	return api.Card{Key: key(id), Status: api.Up, Lease: 900, Stamp: api.Stamp{T: t, Node: 3, N: 1}}
}

func push(to int, l ...api.Card) api.Sent {
	return api.Sent{To: to, M: api.Msg{Kind: api.Push, Cards: l}}
}

func digest(to int, l ...api.Card) api.Sent {
	return api.Sent{To: to, M: api.Msg{Kind: api.Digest, Cards: l}}
}

func pull(to int, ids ...string) api.Sent {
	s := api.Sent{To: to, M: api.Msg{Kind: api.Pull}}
	for _, id := range ids {
		s.M.Keys = append(s.M.Keys, key(id))
	}
	return s
}

// sends asks for just these messages.
func sends(t *testing.T, where string, got []api.Sent, want ...api.Sent) {
	t.Helper()
	same := len(got) == len(want)
	for i := range min(len(got), len(want)) {
		same = same && got[i].To == want[i].To && mail.Same(got[i].M, want[i].M)
	}
	if !same {
		t.Errorf("%s: %v, not %v", where, got, want)
	}
}

// holds asks for a server's cards.
func holds(t *testing.T, where string, s *server.Server, want ...api.Card) {
	t.Helper()
	if got := s.Desk().Shelf().Cards(); !card.Same(got, want) {
		t.Errorf("%s: %v, not %v", where, got, want)
	}
}

func TestNew(t *testing.T) {
	for _, node := range []int{-1, api.MaxNodes, math.MaxInt} {
		if server.New(node, 0) != nil {
			t.Errorf("P20.1: New(%d)", node)
		}
	}
	s := server.New(5)
	if s == nil || s.Now() != 0 || s.Desk().Shelf().Len() != 0 || s.Desk().Stamp().Node != 5 {
		t.Fatal("P20.1: New")
	}
}

func TestTime(t *testing.T) {
	s := server.New(0)
	sends(t, "P20.1: Tick(15) without peers", s.Tick(15))
	sends(t, "P20.1: Tick(0)", s.Tick(0))
	sends(t, "P20.1: Tick(-1)", s.Tick(-1))
	sends(t, "P20.1: Tick", s.Tick(math.MinInt64))
	if s.Now() != 15 {
		t.Errorf("P20.1: Now: %d", s.Now())
	}
	s.Tick(math.MaxInt64)
	if s.Now() != 15+api.MaxStep {
		t.Errorf("P20.1: Now behind a Tick of too many: %d", s.Now())
	}
}

func TestDigests(t *testing.T) {
	s := server.New(0, 4, 2, 4)
	c := made("x", 1)
	s.Receive(2, push(0, c).M)
	sends(t, "P20.1: 14 ticks", s.Tick(14))
	sends(t, "P20.1: the 15th tick", s.Tick(1), digest(4, c))
	sends(t, "P20.1: three rounds", s.Tick(45), digest(2, c), digest(4, c), digest(2, c))
	s = server.New(0, 1, 2, 3, 4, 5, 6, 7)
	var to []int
	for range 7 {
		for _, sent := range s.Tick(15) {
			to = append(to, sent.To)
		}
	}
	if fmt.Sprint(to) != "[1 2 3 4 5 6 1]" {
		t.Errorf("P20.1: seven rounds: %v", to)
	}
}

func TestPushes(t *testing.T) {
	s := server.New(0, 2, 1)
	s.Tick(3)
	var l []api.Card
	for i := range 6 {
		id := fmt.Sprint("k", i)
		s.Receive(4, register(id, 900))
		e, _ := s.Desk().Shelf().Get(key(id))
		l = append(l, e.Card)
	}
	sends(t, "P20.1: the next tick", s.Tick(1), push(2, l[:4]...), push(1, l[:4]...))
	sends(t, "P20.1: the tick behind it", s.Tick(1), push(2, l[4:]...), push(1, l[4:]...))
	sends(t, "P20.1: no more", s.Tick(9))
	s.Receive(4, ask(api.Cancel, "k1", 0, 0))
	e, _ := s.Desk().Shelf().Get(key("k1"))
	got := s.Tick(1)
	want := []api.Sent{digest(2, s.Desk().Shelf().Cards()...), push(2, e.Card), push(1, e.Card)}
	sends(t, "P20.1: a Digest comes ahead of Pushes", got, want...)
	s.Receive(4, ask(api.Renew, "k2", 0, 0))
	sends(t, "P20.1: a renewal is no change", s.Tick(1))
}

// ready is a server at 59 with so many cards of such a lease that were never renewed, whose guard will protect none.
func ready(n int, term int64) *server.Server {
	s := server.New(0, 1)
	for i := range n {
		s.Receive(4, register(string(rune('a'+i)), term))
	}
	for range n * 6 {
		s.Desk().Guard().Renew()
	}
	s.Tick(59)
	return s
}

func TestSweep(t *testing.T) {
	s := ready(8, 10)
	if s.Desk().Shelf().Live() != 8 {
		t.Fatalf("P20.1: the guard protects at first: %d live", s.Desk().Shelf().Live())
	}
	got := s.Tick(1)
	if s.Desk().Shelf().Live() != 6 || len(got) != 2 || len(got[1].M.Cards) != 2 {
		t.Fatalf("P20.1: the sweep at 60: %d live, %v", s.Desk().Shelf().Live(), got)
	}
	for i, id := range []string{"a", "b"} {
		e, _ := s.Desk().Shelf().Get(key(id))
		if !e.Card.Gone || e.Seen != 60 || got[1].M.Cards[i] != e.Card {
			t.Errorf("P20.1: who is put out is told: %v, %v", e, got[1])
		}
	}
	s.Tick(19)
	if s.Desk().Shelf().Live() != 6 {
		t.Error("P20.1: no sweep till the 20th tick")
	}
	s.Tick(1)
	if s.Desk().Shelf().Live() != 5 {
		t.Error("P20.1: the sweep at 80")
	}
}

// However many sweeps there were, who is a tick late is late.
func TestSweepOfTheHardlyLate(t *testing.T) {
	s := ready(8, 60)
	if s.Tick(1); s.Desk().Shelf().Live() != 8 {
		t.Errorf("P20.1: the sweep at 60 puts out none in time: %d live", s.Desk().Shelf().Live())
	}
	s = ready(8, 59)
	if s.Tick(1); s.Desk().Shelf().Live() != 6 {
		t.Errorf("P20.1: the sweep at 60: %d live", s.Desk().Shelf().Live())
	}
	s = ready(8, 79)
	s.Crash()
	s.Tick(1)
	for i := range 8 {
		s.Receive(4, register(string(rune('a'+i)), 59))
	}
	for range 48 {
		s.Desk().Guard().Renew()
	}
	s.Tick(59)
	if s.Tick(1); s.Desk().Shelf().Live() != 6 {
		t.Errorf("P20.1: the sweep at 120, behind a Crash: %d live", s.Desk().Shelf().Live())
	}
}

func TestGuardTicks(t *testing.T) {
	s := ready(8, 10)
	if s.Desk().Guard().This() != 48 {
		t.Errorf("P20.1: a window goes on: %d", s.Desk().Guard().This())
	}
	s.Tick(1)
	if s.Desk().Guard().Last() != 48 || s.Desk().Guard().This() != 0 {
		t.Errorf("P20.1: a window has ended: %d, %d", s.Desk().Guard().Last(), s.Desk().Guard().This())
	}
}

func TestPurge(t *testing.T) {
	s := server.New(0)
	s.Receive(1, register("x", 5))
	s.Tick(19)
	s.Receive(1, ask(api.Cancel, "x", 0, 0))
	s.Tick(401)
	if s.Desk().Shelf().Len() != 0 {
		t.Errorf("P20.1: a purge at 420: %d entries", s.Desk().Shelf().Len())
	}
	s.Receive(1, register("x", 5))
	s.Receive(1, ask(api.Cancel, "x", 0, 0))
	s.Tick(419)
	if s.Desk().Shelf().Len() != 1 {
		t.Error("P20.1: a purge before its time")
	}
	s.Tick(1)
	if s.Desk().Shelf().Len() != 0 {
		t.Error("P20.1: a purge at 840")
	}
}

func TestReceiveAsk(t *testing.T) {
	s := server.New(0, 1)
	s.Tick(4)
	answer := func(op int, id string, code api.Errno) api.Sent {
		return api.Sent{To: 9, M: api.Msg{Kind: api.Answer, Tag: 7, Op: op, Key: key(id), Code: int(code)}}
	}
	sends(t, "P20.2: Register", s.Receive(9, register("x", 30)), answer(api.Register, "x", api.OK))
	c := api.Card{Key: key("x"), Status: api.Up, Lease: 30, Stamp: api.Stamp{T: 4, N: 1}}
	holds(t, "P20.2: Register", s, c)
	if e, _ := s.Desk().Shelf().Get(key("x")); e.Seen != 4 {
		t.Errorf("P20.2: Register: seen at %d", e.Seen)
	}
	sends(t, "P20.2: what Register changed", s.Tick(1), push(1, c))
	sends(t, "P20.2: Renew of none", s.Receive(9, ask(api.Renew, "y", 0, 0)), answer(api.Renew, "y", api.ErrNone))
	sends(t, "P20.2: a refused Register", s.Receive(9, register("z", 0)), answer(api.Register, "z", api.ErrArg))
	got := s.Receive(9, api.Msg{Kind: api.Ask, Tag: 3, Op: api.Fetch, Seq: -1})
	if len(got) != 1 || got[0].To != 9 || !got[0].M.Full || got[0].M.Tag != 3 || !card.Same(got[0].M.Cards, []api.Card{c}) {
		t.Errorf("P20.2: Fetch: %v", got)
	}
	sends(t, "P20.2: no change, no Push", s.Tick(1))
}

func TestReceivePush(t *testing.T) {
	s := server.New(0, 1)
	s.Tick(6)
	sends(t, "P20.2: a Push", s.Receive(3, push(0, made("x", 2), made("b", 1)).M))
	holds(t, "P20.2: a Push", s, made("b", 1), made("x", 2))
	if e, _ := s.Desk().Shelf().Get(key("x")); e.Seen != 6 {
		t.Errorf("P20.2: a Push: seen at %d", e.Seen)
	}
	sends(t, "P20.2: what a Push brought is not told on", s.Tick(1))
}

func TestReceiveDigestAndPull(t *testing.T) {
	s := server.New(0, 1)
	s.Receive(1, push(0, made("a", 5), made("b", 5), made("c", 5)).M)
	sends(t, "P20.2: a Digest of the same", s.Receive(2, digest(0, made("c", 5), made("a", 5), made("b", 5)).M))
	sends(t, "P20.2: a Digest with more", s.Receive(2, digest(0, made("d", 1), made("a", 6), made("b", 5), made("c", 5)).M), pull(2, "a", "d"))
	sends(t, "P20.2: a Digest with less", s.Receive(2, digest(0, made("b", 4), made("c", 5)).M), push(2, made("a", 5), made("b", 5)))
	sends(t, "P20.2: a Digest with both", s.Receive(2, digest(0, made("a", 7), made("b", 5)).M), pull(2, "a"), push(2, made("c", 5)))
	sends(t, "P20.2: a Pull", s.Receive(3, pull(0, "c", "x", "a", "c").M), push(3, made("c", 5), made("a", 5)))
	sends(t, "P20.2: a Pull of unknown keys", s.Receive(3, pull(0, "x").M))
	sends(t, "P20.2: a Pull of nothing", s.Receive(3, pull(0).M))
	holds(t, "P20.2: neither changes anything", s, made("a", 5), made("b", 5), made("c", 5))
	sends(t, "P20.2: nor is anything told on", s.Tick(1))
}

func TestReceiveWrong(t *testing.T) {
	s := server.New(0, 1)
	s.Receive(1, push(0, made("a", 5)).M)
	wrong := made("b", 5)
	wrong.Lease = 0
	for i, m := range []api.Msg{
		{}, {Kind: 9}, {Kind: api.Ask, Op: 9, Key: key("a")}, {Kind: api.Ask, Op: api.Renew, Key: key("a"), Sum: 1},
		{Kind: api.Push, Cards: []api.Card{made("c", 1), wrong}}, {Kind: api.Digest, Tag: 1}, {Kind: api.Pull, Keys: []api.Key{key("a"), {}}},
	} {
		sends(t, fmt.Sprint("P20.2: wrong message ", i), s.Receive(1, m))
	}
	sends(t, "P20.2: an Answer", s.Receive(1, api.Msg{Kind: api.Answer, Op: api.Fetch, Cards: []api.Card{made("c", 1)}}))
	holds(t, "P20.2: wrong messages", s, made("a", 5))
}

func TestCrash(t *testing.T) {
	s := server.New(0, 1, 2)
	s.Tick(18)
	s.Receive(9, register("x", 30))
	s.Receive(9, ask(api.Renew, "x", 0, 0))
	s.Receive(9, register("y", 30))
	last := s.Desk().Stamp()
	s.Crash()
	d := s.Desk()
	if s.Now() != 18 || d.Shelf().Len() != 0 || d.Recent().Seq() != 0 || d.Guard().This() != 0 || d.Guard().Last() != 0 {
		t.Errorf("P20.3: behind a Crash: now %d, %d entries, %d changes", s.Now(), d.Shelf().Len(), d.Recent().Seq())
	}
	if keys, ok := d.Recent().Since(0); len(keys) != 0 || !ok {
		t.Errorf("P20.3: changes behind a Crash: %v", keys)
	}
	sends(t, "P20.3: the queue is empty", s.Tick(1))
	s.Receive(9, register("z", 30))
	want := api.Card{Key: key("z"), Status: api.Up, Lease: 30, Stamp: api.Stamp{T: 19, N: last.N + 1}}
	holds(t, "P20.3: the next stamp goes on", s, want)
	sends(t, "P20.3: the queue goes on", s.Tick(1), push(1, want), push(2, want))
	sends(t, "P20.3: the next peer is the first one", s.Tick(10), digest(1, want))
}

// A stamp may be far ahead of the server's own time: behind a Crash, too, the next one is behind it.
func TestCrashKeepsAFarStamp(t *testing.T) {
	for _, far := range []api.Stamp{{T: 5000, Node: 3, N: 77}, {T: 1 << 50, Node: 1, N: math.MaxInt64 - 1}, {T: 9, N: math.MaxInt64}, {T: 0, N: 0, Node: 4}} {
		s := server.New(2)
		c := made("x", 0)
		c.Stamp = far
		s.Receive(1, push(0, c).M)
		s.Receive(1, register("x", 30))
		first, _ := s.Desk().Shelf().Get(key("x"))
		s.Crash()
		s.Crash()
		s.Receive(1, register("y", 30))
		second, _ := s.Desk().Shelf().Get(key("y"))
		want := first.Card.Stamp
		if want.N < math.MaxInt64 {
			want.N++
		}
		if second.Card.Stamp != want {
			t.Errorf("P20.3: behind %v comes %v", first.Card.Stamp, second.Card.Stamp)
		}
	}
	s := server.New(2)
	s.Crash()
	if s.Desk().Stamp() != (api.Stamp{Node: 2}) {
		t.Errorf("P20.3: a Crash without stamps: %v", s.Desk().Stamp())
	}
}

func TestCrashBeginsAWindow(t *testing.T) {
	s := server.New(0)
	s.Tick(50)
	s.Crash()
	s.Desk().Guard().Renew()
	s.Tick(59)
	if s.Desk().Guard().This() != 1 {
		t.Error("P20.3: the guard's window begins at the Crash")
	}
	s.Tick(1)
	if s.Desk().Guard().Last() != 1 {
		t.Error("P20.3: the guard's window ends")
	}
}

func TestMemory(t *testing.T) {
	peers := []int{1, 2}
	s := server.New(0, peers...)
	peers[0] = 5
	m := push(0, made("a", 1)).M
	s.Receive(1, m)
	m.Cards[0] = made("z", 9)
	got := s.Tick(15)
	sends(t, "R2: what is handed in is not kept", got, digest(1, made("a", 1)))
	got[0].M.Cards[0] = made("z", 9)
	sends(t, "R2: what is told is new", s.Tick(15), digest(2, made("a", 1)))
}

// W2: a lease that is renewed in time is not put out, however late others are.
func TestLeasesKeep(t *testing.T) {
	s := server.New(0)
	for _, id := range []string{"a", "b", "c", "d", "e", "f", "g", "h", "i", "j", "k"} {
		s.Receive(1, register(id, 15))
	}
	s.Desk().Set(lease.Entry{Card: made("late", 0)})
	s.Receive(1, register("late", 15))
	for range 60 {
		s.Tick(10)
		for _, id := range []string{"a", "b", "c", "d", "e", "f", "g", "h", "i", "j", "k"} {
			s.Receive(1, ask(api.Renew, id, 0, 0))
		}
	}
	if s.Desk().Shelf().Live() != 11 {
		t.Errorf("W2: %d of 11 live", s.Desk().Shelf().Live())
	}
	if e, in := s.Desk().Shelf().Get(key("late")); in && !e.Card.Gone {
		t.Errorf("W3: who is late is put out: %v", e)
	}
}
