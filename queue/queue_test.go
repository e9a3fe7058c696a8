package queue_test

import (
	"math"
	"strconv"
	"testing"

	"frankpledge/api"
	"frankpledge/card"
	"frankpledge/queue"
)

// made is the n-th card of a key.
func made(id string, n int64) api.Card {
	return api.Card{Key: api.Key{App: "a", ID: id}, Lease: n}
}

// many are cards of so many keys.
func many(from, to int) []api.Card {
	var l []api.Card
	for i := from; i < to; i++ {
		l = append(l, made(strconv.Itoa(i), 1))
	}
	return l
}

// takes asks for just these cards.
func takes(t *testing.T, q *queue.Queue, peer int, want ...api.Card) {
	t.Helper()
	if got := q.Take(peer); !card.Same(got, want) {
		t.Errorf("P17.1: Take(%d): %v, not %v", peer, got, want)
	}
}

func TestPeers(t *testing.T) {
	q := queue.New(3, 1, 3, math.MinInt, 1, math.MaxInt, 0, 5, 7, 8)
	q.Add(made("a", 1))
	for _, p := range []int{3, 1, math.MinInt, math.MaxInt, 0, 5} {
		if q.Len(p) != 1 {
			t.Errorf("P17.1: peer %d: %d", p, q.Len(p))
		}
	}
	for _, p := range []int{7, 8, 2, -1} {
		if q.Len(p) != 0 {
			t.Errorf("P17.1: no peer %d: %d", p, q.Len(p))
		}
		takes(t, q, p)
	}
	none := queue.New()
	none.Add(many(0, 40)...)
	if none.Lost() != 0 || none.Len(0) != 0 {
		t.Error("P17.1: a queue without peers")
	}
	takes(t, none, 0)
}

func TestAddAndTake(t *testing.T) {
	q := queue.New(1, 2)
	q.Add()
	takes(t, q, 1)
	l := many(0, 6)
	q.Add(l[:2]...)
	q.Add(l[2:]...)
	takes(t, q, 1, l[:4]...)
	if q.Len(1) != 2 || q.Len(2) != 6 {
		t.Errorf("P17.1: Len: %d, %d", q.Len(1), q.Len(2))
	}
	takes(t, q, 1, l[4:]...)
	takes(t, q, 1)
	q.Add(made("x", 9))
	takes(t, q, 1, made("x", 9))
	takes(t, q, 2, l[:4]...)
	takes(t, q, 2, l[4], l[5], made("x", 9))
	if q.Lost() != 0 {
		t.Errorf("P17.1: Lost: %d", q.Lost())
	}
}

func TestOneKeyTwice(t *testing.T) {
	q := queue.New(1)
	q.Add(made("a", 1), made("b", 1), made("a", 2))
	takes(t, q, 1, made("b", 1), made("a", 2))
	q.Add(made("a", 3), made("a", 3))
	takes(t, q, 1, made("a", 3))
	other := made("a", 5)
	other.Key.App = "b"
	q.Add(made("a", 4), other)
	takes(t, q, 1, made("a", 4), other)
}

func TestLost(t *testing.T) {
	q := queue.New(1, 2)
	l := many(0, api.MaxQueue)
	q.Add(l...)
	if q.Lost() != 0 || q.Len(1) != api.MaxQueue {
		t.Errorf("P17.1: as many as may be: %d lost", q.Lost())
	}
	q.Add(made("3", 2))
	if q.Lost() != 0 || q.Len(1) != api.MaxQueue {
		t.Errorf("P17.1: one of a key that is there: %d lost", q.Lost())
	}
	q.Take(2)
	q.Add(made("x", 1))
	if q.Lost() != 1 || q.Len(1) != api.MaxQueue || q.Len(2) != api.MaxQueue-api.MaxBatch+1 {
		t.Errorf("P17.1: one too many in one row: %d lost", q.Lost())
	}
	takes(t, q, 1, l[1], l[2], l[4], l[5])
	q = queue.New(1, 2)
	q.Add(many(0, api.MaxQueue+3)...)
	if q.Lost() != 6 {
		t.Errorf("P17.1: three too many in two rows: %d lost", q.Lost())
	}
	takes(t, q, 2, many(3, 7)...)
}

func TestMemory(t *testing.T) {
	peers := []int{1, 2}
	q := queue.New(peers...)
	peers[0] = 9
	l := many(0, 6)
	q.Add(l...)
	clear(l)
	got := q.Take(1)
	_ = append(got, made("z", 9))
	clear(got)
	takes(t, q, 1, many(4, 6)...)
	takes(t, q, 2, many(0, 4)...)
}
