package watch_test

import (
	"math"
	"testing"

	"frankpledge/api"
	"frankpledge/card"
	"frankpledge/frame"
	"frankpledge/lease"
	"frankpledge/mail"
	"frankpledge/net"
	"frankpledge/script"
	"frankpledge/watch"
	"frankpledge/world"
)

// made is a card of a key with a stamp of this T.
func made(id string, t int64) api.Card {
	return api.Card{Key: api.Key{App: "a", ID: id}, Status: api.Up, Lease: 9, Stamp: api.Stamp{T: t}}
}

func asGone(c api.Card) api.Card {
	c.Gone = true
	return c
}

// set puts cards on a server's shelf.
func set(w *world.World, server int, l ...api.Card) {
	for _, c := range l {
		w.Server(server).Desk().Set(lease.Entry{Card: c})
	}
}

// send puts a message on its way.
func send(t *testing.T, w *world.World, m api.Msg) {
	t.Helper()
	b, err := mail.Bytes(m)
	if err != nil {
		t.Fatal(err)
	}
	f, _ := frame.Bytes(b)
	w.Net().Send(net.Letter{From: 0, To: 1, B: f})
}

func TestAlike(t *testing.T) {
	if watch.Alike(nil) {
		t.Error("R1: Alike of nil")
	}
	for servers := 1; servers <= api.MaxNodes; servers++ {
		w := world.New(servers, 0)
		if !watch.Alike(w) {
			t.Errorf("P27.1: Alike of a new world of %d", servers)
		}
		last := servers - 1
		set(w, last, made("x", 1))
		if watch.Alike(w) != (servers == 1) {
			t.Errorf("P27.1: Alike of %d, of which the last one has a card", servers)
		}
		for i := range last {
			set(w, i, made("x", 1))
		}
		if !watch.Alike(w) {
			t.Errorf("P27.1: Alike of %d that have the same card", servers)
		}
		set(w, last, asGone(made("x", 1)))
		if watch.Alike(w) != (servers == 1) {
			t.Errorf("P27.1: Alike of %d, of which one has a card as gone", servers)
		}
	}
	w := world.New(2, 0)
	set(w, 0, made("x", 1), made("y", 1))
	set(w, 1, made("y", 1), made("x", 2))
	if watch.Alike(w) {
		t.Error("P27.1: Alike of two that have other stamps")
	}
}

func TestWhole(t *testing.T) {
	if len(watch.Whole(nil)) != 0 {
		t.Error("R1: Whole of nil")
	}
	w := world.New(3, 0)
	if len(watch.Whole(w)) != 0 {
		t.Error("P27.1: Whole of a new world")
	}
	set(w, 0, made("b", 1), made("a", 5))
	set(w, 2, asGone(made("b", 3)), made("c", 1))
	send(t, w, api.Msg{Kind: api.Push, Cards: []api.Card{made("a", 4), made("d", 1), made("c", 2)}})
	send(t, w, api.Msg{Kind: api.Digest, Cards: []api.Card{made("a", 9), made("e", 1)}})
	send(t, w, api.Msg{Kind: api.Answer, Op: api.Fetch, Cards: []api.Card{made("f", 1)}})
	send(t, w, api.Msg{Kind: api.Push, Cards: []api.Card{made("g", 1)}})
	w.Net().Send(net.Letter{From: 0, To: 1, B: []byte{1, 2, 3}})
	w.Net().Send(net.Letter{From: 0, To: 1, B: []byte{0, 0, 0, 1, 9, 0, 0, 0, 0}})
	odd, _ := frame.Bytes([]byte{9})
	w.Net().Send(net.Letter{From: 0, To: 1, B: odd})
	want := []api.Card{made("a", 5), asGone(made("b", 3)), made("c", 2), made("d", 1), made("g", 1)}
	if got := watch.Whole(w); !card.Same(got, want) {
		t.Errorf("P27.1: Whole: %v, not %v", got, want)
	}
	if w.Net().Len() != 7 {
		t.Error("P27.1: Whole takes nothing out")
	}
}

func TestHeld(t *testing.T) {
	w := world.New(2, 2)
	if watch.Held(nil, 0) {
		t.Error("R1: Held of nil")
	}
	for _, i := range []int{-1, 2, 3, math.MinInt, math.MaxInt} {
		if watch.Held(w, i) {
			t.Errorf("P27.1: Held of no client %d", i)
		}
	}
	if !watch.Held(w, 0) || !watch.Held(w, 1) {
		t.Error("P27.1: Held of new clients")
	}
	set(w, 0, asGone(made("x", 1)))
	if !watch.Held(w, 0) {
		t.Error("P27.1: one that is gone is not shown")
	}
	set(w, 1, made("x", 1))
	if !watch.Held(w, 0) || watch.Held(w, 1) {
		t.Error("P27.1: each client has its own server")
	}
	script.Run(w, "tick 3 1\ndeliver 0\ndeliver 0\n")
	if !watch.Held(w, 1) {
		t.Error("P27.1: a client that was told")
	}
	hidden := made("x", 8)
	hidden.Status, hidden.Over = api.Down, api.Up
	set(w, 1, hidden)
	if !watch.Held(w, 1) {
		t.Error("P27.1: what is not shown need not be held")
	}
	set(w, 1, made("y", 1))
	if watch.Held(w, 1) {
		t.Error("P27.1: a client that was not told of the latest")
	}
	script.Run(w, "tick 3 25\ndeliver 0\ndeliver 0\n")
	if !watch.Held(w, 1) {
		t.Error("P27.1: a client that was told again")
	}
}

func TestQuiet(t *testing.T) {
	quiet := []api.Act{{Kind: api.Tick, A: -1}, {Kind: api.Deliver, N: 99}, {Kind: api.Look}}
	if !watch.Quiet(nil) || !watch.Quiet(quiet) {
		t.Error("P27.1: Quiet")
	}
	for _, kind := range []int{api.Drop, api.Twice, api.Cut, api.Heal, api.Crash, api.Do, 0, -1, 10} {
		for at := range len(quiet) + 1 {
			l := append(append(append([]api.Act(nil), quiet[:at]...), api.Act{Kind: kind}), quiet[at:]...)
			if watch.Quiet(l) {
				t.Errorf("P27.1: Quiet with kind %d at %d", kind, at)
			}
		}
	}
}
