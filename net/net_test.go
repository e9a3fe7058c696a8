package net_test

import (
	"math"
	"testing"

	"frankpledge/api"
	"frankpledge/net"
)

func letter(from, to int, s string) net.Letter {
	return net.Letter{From: from, To: to, B: []byte(s)}
}

// holds asks that just these letters lie in n, in this order.
func holds(t *testing.T, n *net.Net, want ...string) {
	t.Helper()
	all := n.All()
	if n.Len() != len(want) || len(all) != len(want) {
		t.Fatalf("P8.1: %d letters, Len %d, not %d", len(all), n.Len(), len(want))
	}
	for i, l := range all {
		if string(l.B) != want[i] {
			t.Errorf("P8.1: letter %d: %q, not %q", i, l.B, want[i])
		}
	}
}

func TestNew(t *testing.T) {
	for _, n := range []int{0, -1, api.MaxNodes + 1, math.MaxInt} {
		if net.New(n) != nil {
			t.Errorf("P8.1: New(%d)", n)
		}
	}
	for k := 1; k <= api.MaxNodes; k++ {
		n := net.New(k)
		if n == nil || n.Send(letter(k-1, 0, "x")) != api.OK || n.Send(letter(0, k, "x")) != api.ErrIndex {
			t.Errorf("P8.1: New(%d)", k)
		}
	}
}

func TestSend(t *testing.T) {
	n := net.New(2)
	for _, l := range []net.Letter{letter(-1, 0, ""), letter(0, -1, ""), letter(2, 0, ""), letter(0, 2, ""), letter(math.MinInt, 0, "")} {
		if n.Send(l) != api.ErrIndex {
			t.Errorf("P8.1: Send from %d to %d", l.From, l.To)
		}
	}
	holds(t, n)
	if n.Send(letter(0, 1, "a")) != api.OK || n.Send(letter(1, 1, "b")) != api.OK || n.Send(letter(1, 0, "")) != api.OK {
		t.Error("P8.1: Send")
	}
	holds(t, n, "a", "b", "")
	if l := n.All()[1]; l.From != 1 || l.To != 1 {
		t.Errorf("P8.1: All: %v", l)
	}
}

func TestDeliver(t *testing.T) {
	n := net.New(3)
	n.Send(letter(0, 1, "a"))
	n.Send(letter(2, 0, "b"))
	n.Send(letter(1, 2, "c"))
	for _, i := range []int64{-1, 3, math.MaxInt64, math.MinInt64} {
		if l, why := n.Deliver(i); why != api.ErrIndex || l.B != nil || l.From != 0 {
			t.Errorf("P8.1: Deliver(%d): %d", i, int(why))
		}
	}
	if l, why := n.Deliver(1); why != api.OK || l.From != 2 || l.To != 0 || string(l.B) != "b" {
		t.Errorf("P8.1: Deliver(1): %v, %d", l, int(why))
	}
	holds(t, n, "a", "c")
	n.Cut(2, 1)
	if l, why := n.Deliver(1); why != api.ErrCut || l.B != nil || l.To != 0 {
		t.Errorf("P8.1: Deliver between the parted: %v, %d", l, int(why))
	}
	holds(t, n, "a", "c")
	if _, why := n.Deliver(0); why != api.OK {
		t.Errorf("P8.1: Deliver between others: %d", int(why))
	}
	n.Heal(1, 2)
	if l, why := n.Deliver(0); why != api.OK || string(l.B) != "c" {
		t.Errorf("P8.1: Deliver between the healed: %v, %d", l, int(why))
	}
	holds(t, n)
}

func TestDropAndTwice(t *testing.T) {
	n := net.New(2)
	for _, s := range []string{"a", "b", "c"} {
		n.Send(letter(0, 1, s))
	}
	for _, i := range []int64{-1, 3, math.MinInt64} {
		if n.Drop(i) != api.ErrIndex || n.Twice(i) != api.ErrIndex {
			t.Errorf("P8.1: Drop, Twice of %d", i)
		}
	}
	n.Cut(0, 1)
	if n.Twice(0) != api.OK {
		t.Error("P8.1: Twice")
	}
	holds(t, n, "a", "b", "c", "a")
	if n.Drop(1) != api.OK {
		t.Error("P8.1: Drop")
	}
	holds(t, n, "a", "c", "a")
	if l := n.All()[2]; l.From != 0 || l.To != 1 {
		t.Errorf("P8.1: Twice: %v", l)
	}
}

func TestFull(t *testing.T) {
	n := net.New(1)
	for range api.MaxBag {
		if why := n.Send(letter(0, 0, "x")); why != api.OK {
			t.Fatalf("P8.1: Send: %d", int(why))
		}
	}
	if n.Send(letter(0, 0, "x")) != api.ErrFull || n.Twice(0) != api.ErrFull || n.Len() != api.MaxBag {
		t.Error("P8.1: a full bag")
	}
	if n.Send(letter(0, 1, "x")) != api.ErrIndex || n.Twice(api.MaxBag) != api.ErrIndex {
		t.Error("P8.1: of a full bag, too, no node and no letter come first")
	}
	n.Drop(5)
	if n.Twice(0) != api.OK || n.Twice(0) != api.ErrFull {
		t.Error("P8.1: room for one")
	}
}

func TestCut(t *testing.T) {
	n := net.New(3)
	for _, p := range [][2]int{{0, 0}, {-1, 0}, {0, -1}, {3, 0}, {0, 3}, {5, 5}} {
		if n.Cut(p[0], p[1]) != api.ErrIndex || n.Heal(p[0], p[1]) != api.ErrIndex || n.Parted(p[0], p[1]) {
			t.Errorf("P8.1: Cut, Heal, Parted of %v", p)
		}
	}
	if n.Cut(0, 2) != api.OK || !n.Parted(0, 2) || !n.Parted(2, 0) || n.Parted(0, 1) || n.Parted(1, 2) {
		t.Error("P8.1: Cut parts both ways, and no others")
	}
	if n.Cut(2, 0) != api.OK || n.Heal(2, 0) != api.OK || n.Parted(0, 2) || n.Parted(2, 0) {
		t.Error("P8.1: Heal joins both ways")
	}
	if n.Heal(1, 2) != api.OK {
		t.Error("P8.1: Heal of those that are not parted")
	}
}

func TestMemory(t *testing.T) {
	n := net.New(1)
	l := letter(0, 0, "abc")
	n.Send(l)
	clear(l.B)
	n.Twice(0)
	clear(n.All()[0].B)
	first, _ := n.Deliver(0)
	if string(first.B) != "abc" {
		t.Fatalf("R2: the net keeps, or hands out, what it holds: %q", first.B)
	}
	clear(first.B)
	if second, _ := n.Deliver(0); string(second.B) != "abc" {
		t.Errorf("R2: two letters share memory: %q", second.B)
	}
}
