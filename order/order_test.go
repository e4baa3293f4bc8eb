package order

import (
	"container/heap"
	"math/rand"
	"slices"
	"testing"

	"strata/api"
)

// The least of the next rows comes out of the heap first, and of equal ones the
// one with the least number, in whatever order they were put in.
func TestNextRows(t *testing.T) {
	r := rand.New(rand.NewSource(1))
	for range 500 {
		h := &nextRows{}
		for row := range 1 + r.Intn(30) {
			h.list = append(h.list, api.Cell{N: r.Intn(5)})
			h.groups = append(h.groups, group{next: row, end: row + 1})
		}
		r.Shuffle(h.Len(), h.Swap)
		heap.Init(h)
		var rows []int
		for h.Len() > 0 {
			rows = append(rows, heap.Pop(h).(group).next)
		}
		sorted := slices.IsSortedFunc(rows, func(a, b int) int {
			if h.list[a].N != h.list[b].N {
				return h.list[a].N - h.list[b].N
			}
			return a - b
		})
		if !sorted || len(rows) != len(h.list) {
			t.Fatalf("%v come out as %v", h.list, rows)
		}
	}
}

func TestLess(t *testing.T) {
	null := api.Cell{Null: true}
	for _, up := range [][]api.Cell{
		{null, {N: -1 << 63}, {N: -1}, {N: 0}, {N: 1}, {N: 1<<63 - 1}},
		{null, {S: ""}, {S: "\x00"}, {S: "A"}, {S: "a"}, {S: "a\x00"}, {S: "aa"}, {S: "b"}, {S: "\x80"}, {S: "\xff"}},
	} {
		for i, a := range up {
			for j, b := range up {
				if less(a, b) != (i < j) {
					t.Errorf("less(%v, %v) = %v", a, b, less(a, b))
				}
			}
		}
	}
}
