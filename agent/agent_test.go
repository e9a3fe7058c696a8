package agent_test

import (
	"fmt"
	"math"
	"testing"

	"frankpledge/agent"
	"frankpledge/api"
	"frankpledge/card"
	"frankpledge/mail"
	"frankpledge/seal"
)

var me = api.Key{App: "app0", ID: "id0"}

// sends asks for just these messages, all to one server.
func sends(t *testing.T, where string, got []api.Sent, to int, want ...api.Msg) {
	t.Helper()
	same := len(got) == len(want)
	for i := range min(len(got), len(want)) {
		same = same && got[i].To == to && mail.Same(got[i].M, want[i])
	}
	if !same {
		t.Errorf("P22.2: %s: %v, not %v to %d", where, got, want, to)
	}
}

func fetch(tag, since int64) api.Msg {
	return api.Msg{Kind: api.Ask, Tag: tag, Op: api.Fetch, Seq: since}
}

func ask(tag int64, op int, n int64, status int) api.Msg {
	return api.Msg{Kind: api.Ask, Tag: tag, Op: op, Key: me, N: n, Status: status}
}

func answer(tag int64, op int, code api.Errno) api.Msg {
	return api.Msg{Kind: api.Answer, Tag: tag, Op: op, Key: me, Code: int(code)}
}

// fed is a full Answer to a Fetch.
func fed(tag, seq int64, l ...api.Card) api.Msg {
	return api.Msg{Kind: api.Answer, Tag: tag, Op: api.Fetch, Full: true, Seq: seq, Sum: seal.Of(l), Cards: l}
}

// tells asks for the Code of an Answer.
func tells(t *testing.T, where string, a *agent.Agent, from int, m api.Msg, want int) {
	t.Helper()
	if got := a.Receive(from, m); got != want {
		t.Errorf("P22.3: %s: %d, not %d", where, got, want)
	}
}

// is asks for what can be asked of a client.
func is(t *testing.T, where string, a *agent.Agent, server int, waits, known bool) {
	t.Helper()
	if a.Server() != server || a.Waits() != waits || a.Known() != known {
		t.Errorf("P22: %s: server %d, waits %v, known %v; not %d, %v, %v", where, a.Server(), a.Waits(), a.Known(), server, waits, known)
	}
}

// fresh is a client of these servers at 1 that has fetched (Tag 1) and was answered.
func fresh(t *testing.T, servers ...int) *agent.Agent {
	t.Helper()
	a := agent.New(me, servers...)
	sends(t, "the first tick", a.Tick(1), servers[0], fetch(1, -1))
	tells(t, "the first answer", a, servers[0], fed(1, 4), 0)
	return a
}

// registered is fresh at 2, with a Register (Tag 2) of a lease of 30 that was answered.
func registered(t *testing.T, servers ...int) *agent.Agent {
	t.Helper()
	a := fresh(t, servers...)
	a.Want(api.Register, 30, api.Up)
	sends(t, "a wanted Register", a.Tick(1), servers[0], ask(2, api.Register, 30, api.Up))
	tells(t, "its answer", a, servers[0], answer(2, api.Register, api.OK), 0)
	return a
}

func TestNew(t *testing.T) {
	for i, a := range []*agent.Agent{
		agent.New(me), agent.New(me, 1, 2, 3, 4, 5, 6, 7), agent.New(api.Key{App: "a"}, 0), agent.New(api.Key{ID: "a"}, 0), agent.New(api.Key{}, 0), agent.New(api.Key{App: "a", ID: "B"}, 0), agent.New(api.Key{App: "a b", ID: "b"}, 0),
	} {
		if a != nil {
			t.Errorf("P22.1: New %d", i)
		}
	}
	for _, servers := range [][]int{{7}, {-1, -1}, {1, 2, 3, 4, 5, 6}} {
		a := agent.New(me, servers...)
		if a == nil {
			t.Fatalf("P22.1: New of %v", servers)
		}
		is(t, "a new one", a, servers[0], false, false)
		if a.Cache().Since() != -1 {
			t.Error("P22.1: a new one's cache")
		}
	}
}

func TestWant(t *testing.T) {
	a := agent.New(me, 0)
	for _, w := range []struct {
		op     int
		n      int64
		status int
	}{
		{0, 1, 1}, {api.Renew, 1, 1}, {api.Fetch, 1, 1}, {-1, 1, 1}, {6, 1, 1}, {math.MaxInt, 1, 1},
		{api.Register, 0, api.Up}, {api.Register, api.MaxLease + 1, api.Up}, {api.Register, math.MinInt64, api.Up},
		{api.Register, 1, 0}, {api.Register, 1, api.Out}, {api.Register, 1, -1},
		{api.Override, 1, -1}, {api.Override, 1, api.Out + 1},
	} {
		if why := a.Want(w.op, w.n, w.status); why != api.ErrArg {
			t.Errorf("P22.1: Want %v: %d", w, int(why))
		}
	}
	for _, w := range []struct {
		op     int
		n      int64
		status int
	}{
		{api.Register, 1, api.Up}, {api.Register, api.MaxLease, api.Down}, {api.Cancel, -5, -5}, {api.Cancel, math.MaxInt64, 99},
		{api.Override, -5, 0}, {api.Override, math.MaxInt64, api.Up}, {api.Override, 0, api.Down}, {api.Override, 0, api.Out},
	} {
		if why := a.Want(w.op, w.n, w.status); why != api.OK {
			t.Errorf("P22.1: Want %v: %d", w, int(why))
		}
	}
	if a.Want(api.Cancel, 0, 0) != api.ErrFull || a.Want(api.Renew, 0, 0) != api.ErrArg {
		t.Error("P22.1: eight wait")
	}
	a.Tick(1)
	if a.Want(api.Cancel, 0, 0) != api.OK || a.Want(api.Cancel, 0, 0) != api.ErrFull {
		t.Error("P22.1: room for one")
	}
}

func TestWantsInTurn(t *testing.T) {
	a := agent.New(me, 3)
	a.Want(api.Override, 99, api.Out)
	a.Want(api.Register, 40, api.Down)
	a.Want(api.Cancel, 99, 99)
	sends(t, "the first want", a.Tick(1), 3, ask(1, api.Override, 0, api.Out))
	is(t, "behind an ask", a, 3, true, false)
	sends(t, "while it waits", a.Tick(3), 3)
	tells(t, "an Override of none", a, 3, answer(1, api.Override, api.ErrNone), int(api.ErrNone))
	sends(t, "the second want", a.Tick(1), 3, ask(2, api.Register, 40, api.Down))
	tells(t, "a Register", a, 3, answer(2, api.Register, api.OK), 0)
	is(t, "behind a Register", a, 3, false, true)
	sends(t, "the third want", a.Tick(1), 3, ask(3, api.Cancel, 0, 0))
	tells(t, "a Cancel", a, 3, answer(3, api.Cancel, api.OK), 0)
	is(t, "behind a Cancel", a, 3, false, false)
	sends(t, "a Fetch comes last", a.Tick(1), 3, fetch(4, -1))
	tells(t, "a Fetch", a, 3, fed(4, 2), 0)
	sends(t, "who wishes no longer to be there renews not", a.Tick(24), 3)
	sends(t, "the next Fetch", a.Tick(1), 3, fetch(5, 2))
}

func TestTicks(t *testing.T) {
	a := agent.New(me, 0)
	for _, n := range []int64{0, -1, math.MinInt64} {
		sends(t, "no tick", a.Tick(n), 0)
	}
	got := a.Tick(math.MaxInt64)
	// A Fetch at 1, and at each 25th tick behind it: that none was answered makes it due no earlier.
	if len(got) != 41 || got[40].M.Tag != 41 {
		t.Errorf("P22.2: as many ticks as may be: %d asks", len(got))
	}
}

func TestBeats(t *testing.T) {
	a := registered(t, 5)
	is(t, "registered", a, 5, false, true)
	sends(t, "nine ticks", a.Tick(9), 5)
	sends(t, "the tenth: a renewal", a.Tick(1), 5, ask(3, api.Renew, 0, 0))
	tells(t, "a renewal", a, 5, answer(3, api.Renew, api.OK), 0)
	is(t, "renewed", a, 5, false, true)
	a.Tick(7)
	a.Want(api.Override, 0, api.Down)
	sends(t, "an Override is no beat", a.Tick(1), 5, ask(4, api.Override, 0, api.Down))
	tells(t, "an Override", a, 5, answer(4, api.Override, api.OK), 0)
	sends(t, "a tick more", a.Tick(1), 5)
	sends(t, "ten ticks behind the renewal", a.Tick(1), 5, ask(5, api.Renew, 0, 0))
	tells(t, "a renewal of none", a, 5, answer(5, api.Renew, api.ErrNone), int(api.ErrNone))
	is(t, "no longer known", a, 5, false, false)
	sends(t, "at once: a Register of what it remembers", a.Tick(1), 5, ask(6, api.Register, 30, api.Up))
	tells(t, "which is refused", a, 5, answer(6, api.Register, api.ErrFull), int(api.ErrFull))
	is(t, "refused", a, 5, false, false)
	sends(t, "then a Fetch", a.Tick(9), 5, fetch(7, 4))
	tells(t, "a Fetch", a, 5, fed(7, 6), 0)
	sends(t, "and ten ticks behind it Register again", a.Tick(1), 5, ask(8, api.Register, 30, api.Up))
}

func TestARenewalThatIsRefused(t *testing.T) {
	a := registered(t, 5)
	a.Tick(10)
	tells(t, "another refusal", a, 5, answer(3, api.Renew, api.ErrArg), int(api.ErrArg))
	is(t, "still known", a, 5, false, true)
	sends(t, "and not at once again", a.Tick(9), 5)
	a.Want(api.Cancel, 0, 0)
	sends(t, "a Cancel", a.Tick(1), 5, ask(4, api.Cancel, 0, 0))
	tells(t, "that is refused", a, 5, answer(4, api.Cancel, api.ErrFull), int(api.ErrFull))
	is(t, "still known, too", a, 5, false, true)
}

func TestCancelOfNone(t *testing.T) {
	a := registered(t, 5)
	a.Want(api.Cancel, 0, 0)
	a.Tick(1)
	tells(t, "a Cancel of none", a, 5, answer(3, api.Cancel, api.ErrNone), int(api.ErrNone))
	is(t, "not known", a, 5, false, false)
	a.Want(api.Register, 8, api.Down)
	sends(t, "a Register again", a.Tick(1), 5, ask(4, api.Register, 8, api.Down))
}

// What is wanted comes ahead of beats, beats ahead of fetches.
func TestOrder(t *testing.T) {
	a := registered(t, 5)
	a.Tick(10)
	tells(t, "a renewal", a, 5, answer(3, api.Renew, api.OK), 0)
	a.Tick(9)
	a.Want(api.Override, 0, api.Up)
	sends(t, "beside a beat the want", a.Tick(1), 5, ask(4, api.Override, 0, api.Up))
	tells(t, "the want", a, 5, answer(4, api.Override, api.OK), 0)
	sends(t, "then the beat", a.Tick(1), 5, ask(5, api.Renew, 0, 0))
	sends(t, "which is not answered soon", a.Tick(6), 5)
	tells(t, "the beat", a, 5, answer(5, api.Renew, api.OK), 0)
	sends(t, "then the Fetch", a.Tick(1), 5, fetch(6, 4))
}

func TestNoAnswer(t *testing.T) {
	a := agent.New(me, 4, 2)
	a.Want(api.Register, 30, api.Up)
	sends(t, "a Register", a.Tick(1), 4, ask(1, api.Register, 30, api.Up))
	tells(t, "a Register", a, 4, answer(1, api.Register, api.OK), 0)
	sends(t, "a Fetch", a.Tick(1), 4, fetch(2, -1))
	tells(t, "a Fetch", a, 4, fed(2, 7), 0)
	sends(t, "a renewal", a.Tick(9), 4, ask(3, api.Renew, 0, 0))
	sends(t, "seven ticks", a.Tick(7), 4)
	is(t, "seven ticks", a, 4, true, true)
	if a.Cache().Since() != 7 {
		t.Errorf("P22.2: Since: %d", a.Cache().Since())
	}
	sends(t, "the eighth", a.Tick(1), 2)
	is(t, "the next server", a, 2, false, false)
	if a.Cache().Since() != -1 {
		t.Errorf("P22.2: the cache forgets: %d", a.Cache().Since())
	}
	tells(t, "an answer that comes late", a, 4, answer(3, api.Renew, api.OK), -1)
	tells(t, "an answer that nobody waits for", a, 2, answer(3, api.Renew, api.OK), -1)
	sends(t, "at the next beat a Register", a.Tick(2), 2, ask(4, api.Register, 30, api.Up))
	sends(t, "which is not answered either: a Fetch is due", a.Tick(8), 4, fetch(5, -1))
	is(t, "the first server again", a, 4, true, false)
}

func TestTheSameServerNext(t *testing.T) {
	a := registered(t, 5)
	sends(t, "a renewal", a.Tick(10), 5, ask(3, api.Renew, 0, 0))
	a.Tick(8)
	is(t, "the next server is the same", a, 5, false, false)
	if a.Cache().Since() != -1 {
		t.Error("P22.2: the cache forgets, too")
	}
	sends(t, "a Register", a.Tick(2), 5, ask(4, api.Register, 30, api.Up))
}

func TestAtOnceBehindNoAnswer(t *testing.T) {
	a := agent.New(me, 0, 1)
	sends(t, "a Fetch", a.Tick(1), 0, fetch(1, -1))
	a.Want(api.Cancel, 0, 0)
	sends(t, "the eighth tick: the next server is asked", a.Tick(8), 1, ask(2, api.Cancel, 0, 0))
	is(t, "the next server is asked", a, 1, true, false)
}

func TestReceiveWrong(t *testing.T) {
	a := agent.New(me, 4, 2)
	tells(t, "an answer ahead of all asks", a, 4, fed(0, 1), -1)
	a.Tick(1)
	for i, c := range []struct {
		from int
		m    api.Msg
	}{
		{2, fed(1, 3)}, {-1, fed(1, 3)}, {4, fed(0, 3)}, {4, fed(2, 3)}, {4, answer(1, api.Renew, api.OK)},
		{4, api.Msg{}}, {4, fetch(1, -1)}, {4, api.Msg{Kind: api.Push}}, {4, fed(1, -2)},
		{4, api.Msg{Kind: api.Answer, Tag: 1, Op: api.Fetch, Code: 256}},
	} {
		tells(t, fmt.Sprint("wrong answer ", i), a, c.from, c.m, -1)
		is(t, "behind a wrong answer", a, 4, true, false)
	}
	tells(t, "the right one", a, 4, fed(1, 3), 0)
	tells(t, "the right one twice", a, 4, fed(1, 9), -1)
	if a.Cache().Since() != 3 {
		t.Errorf("P22.3: Since: %d", a.Cache().Since())
	}
}

func TestFetches(t *testing.T) {
	a := fresh(t, 0)
	c := api.Card{Key: me, Status: api.Up, Lease: 5}
	sends(t, "24 ticks", a.Tick(24), 0)
	sends(t, "the 25th", a.Tick(1), 0, fetch(2, 4))
	delta := fed(2, 5, c)
	delta.Full = false
	tells(t, "a delta", a, 0, delta, 0)
	if a.Cache().Since() != 5 || !card.Same(a.Cache().Cards(), []api.Card{c}) {
		t.Errorf("P22.3: a delta: since %d", a.Cache().Since())
	}
	sends(t, "the next Fetch", a.Tick(25), 0, fetch(3, 5))
	delta = fed(3, 6)
	delta.Full = false
	tells(t, "a delta of a wrong sum", a, 0, delta, int(api.ErrStale))
	sends(t, "at once a Fetch of all", a.Tick(1), 0, fetch(4, -1))
	tells(t, "all", a, 0, fed(4, 6, c), 0)
	sends(t, "24 ticks behind it", a.Tick(24), 0)
	sends(t, "the 25th behind it", a.Tick(1), 0, fetch(5, 6))
	refused := api.Msg{Kind: api.Answer, Tag: 5, Op: api.Fetch, Code: int(api.ErrArg)}
	tells(t, "a refusal", a, 0, refused, int(api.ErrArg))
	if a.Cache().Since() != 6 {
		t.Error("P22.3: a refusal is not applied")
	}
	sends(t, "24 ticks behind a refusal", a.Tick(24), 0)
}

func TestMemory(t *testing.T) {
	servers := []int{4, 2}
	a := agent.New(me, servers...)
	servers[0] = 9
	is(t, "R2: what is handed in is not kept", a, 4, false, false)
}
