package recent_test

import (
	"math"
	"slices"
	"strconv"
	"testing"

	"frankpledge/api"
	"frankpledge/recent"
)

func key(id string) api.Key { return api.Key{App: "a", ID: id} }

func keys(ids ...string) []api.Key {
	var l []api.Key
	for _, id := range ids {
		l = append(l, key(id))
	}
	return l
}

// since asks for what Since tells.
func since(t *testing.T, r *recent.Row, n int64, ok bool, want []api.Key) {
	t.Helper()
	if got, known := r.Since(n); known != ok || !slices.Equal(got, want) {
		t.Errorf("P13.1: Since(%d) of %d changes: %v, %v; not %v, %v", n, r.Seq(), got, known, want, ok)
	}
}

func TestNumbers(t *testing.T) {
	r := recent.New()
	if r.Seq() != 0 {
		t.Error("P13.1: Seq of a new one")
	}
	since(t, r, 0, true, nil)
	since(t, r, 1, false, nil)
	since(t, r, -1, false, nil)
	for i := int64(1); i <= 40; i++ {
		if got := r.Add(key("x")); got != i || r.Seq() != i {
			t.Errorf("P13.1: Add: %d, Seq %d, not %d", got, r.Seq(), i)
		}
	}
}

func TestSince(t *testing.T) {
	r := recent.New()
	for _, id := range []string{"a", "b", "a", "c", "b"} {
		r.Add(key(id))
	}
	since(t, r, 0, true, keys("a", "c", "b"))
	since(t, r, 1, true, keys("a", "c", "b"))
	since(t, r, 2, true, keys("a", "c", "b"))
	since(t, r, 3, true, keys("c", "b"))
	since(t, r, 4, true, keys("b"))
	since(t, r, 5, true, nil)
	for _, n := range []int64{6, -1, math.MinInt64, math.MaxInt64} {
		since(t, r, n, false, nil)
	}
}

func TestRunOfTheChapter(t *testing.T) {
	r := recent.New()
	for _, id := range []string{"a", "b", "a"} {
		r.Add(key(id))
	}
	since(t, r, 0, true, keys("b", "a"))
}

func TestOnlyTheLastAreKnown(t *testing.T) {
	r := recent.New()
	var all []string
	for i := range api.MaxRecent {
		all = append(all, "k"+strconv.Itoa(i))
		r.Add(key(all[i]))
	}
	since(t, r, 0, true, keys(all...))
	r.Add(key("more"))
	since(t, r, 0, false, nil)
	since(t, r, 1, true, append(keys(all[1:]...), key("more")))
	for range 100 {
		r.Add(key("y"))
	}
	since(t, r, r.Seq()-api.MaxRecent-1, false, nil)
	since(t, r, r.Seq()-api.MaxRecent, true, keys("y"))
	since(t, r, r.Seq(), true, nil)
}

func TestMemory(t *testing.T) {
	r := recent.New()
	r.Add(key("a"))
	r.Add(key("b"))
	got, _ := r.Since(0)
	_ = append(got, key("z"))
	got[0] = key("z")
	since(t, r, 0, true, keys("a", "b"))
}
