package stamp_test

import (
	"math"
	"testing"

	"frankpledge/api"
	"frankpledge/stamp"
)

// rising is a row of stamps, each one later than the one ahead of it.
var rising = []api.Stamp{
	{T: math.MinInt64, N: 5, Node: 5},
	{T: -1, N: 9, Node: 9},
	{T: 0, N: -3, Node: 4},
	{T: 0, N: 0, Node: 0},
	{T: 0, N: 0, Node: 1},
	{T: 0, N: 1, Node: 0},
	{T: 1, N: 0, Node: 0},
	{T: 1, N: math.MaxInt64, Node: -1},
	{T: 1, N: math.MaxInt64, Node: 3},
	{T: math.MaxInt64, N: 0, Node: 0},
}

func TestLessAndMax(t *testing.T) {
	for i, a := range rising {
		for j, b := range rising {
			if got := stamp.Less(a, b); got != (i < j) {
				t.Errorf("P4.1: Less(%v, %v): %v", a, b, got)
			}
			if got := stamp.Max(a, b); got != rising[max(i, j)] {
				t.Errorf("P4.1: Max(%v, %v): %v", a, b, got)
			}
		}
	}
}

func TestNext(t *testing.T) {
	for _, c := range []struct {
		a    api.Stamp
		now  int64
		node int
		want api.Stamp
	}{
		{api.Stamp{T: 5, Node: 0, N: 3}, 2, 1, api.Stamp{T: 5, Node: 1, N: 4}},
		{api.Stamp{T: 5, Node: 2, N: 3}, 9, 0, api.Stamp{T: 9, Node: 0, N: 4}},
		{api.Stamp{T: 5, Node: 2, N: 3}, 5, 2, api.Stamp{T: 5, Node: 2, N: 4}},
		{api.Stamp{}, 0, 0, api.Stamp{N: 1}},
		{api.Stamp{T: 1, N: math.MaxInt64 - 1}, 0, 4, api.Stamp{T: 1, Node: 4, N: math.MaxInt64}},
		{api.Stamp{T: 1, N: math.MaxInt64}, 7, 4, api.Stamp{T: 7, Node: 4, N: math.MaxInt64}},
		{api.Stamp{T: -9, N: -9}, -10, -1, api.Stamp{T: -9, Node: -1, N: -8}},
	} {
		if got := stamp.Next(c.a, c.now, c.node); got != c.want {
			t.Errorf("P4.1: Next(%v, %d, %d): %v, not %v", c.a, c.now, c.node, got, c.want)
		}
	}
}

func TestRight(t *testing.T) {
	for _, s := range []api.Stamp{{}, {T: math.MaxInt64, N: math.MaxInt64, Node: api.MaxNodes - 1}, {T: 1, Node: 3}} {
		if !stamp.Right(s) {
			t.Errorf("P4.1: Right(%v): false", s)
		}
	}
	for _, s := range []api.Stamp{{T: -1}, {N: -1}, {Node: -1}, {Node: api.MaxNodes}, {T: math.MinInt64}, {N: math.MinInt64}, {Node: math.MaxInt}} {
		if stamp.Right(s) {
			t.Errorf("P4.1: Right(%v): true", s)
		}
	}
}
