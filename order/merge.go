package order

import (
	"container/heap"

	"strata/api"
)

// merge tells the numbers of the rows of all groups, each of which is in order.
func merge(list []api.Cell, groups []group) []int {
	h := &nextRows{list: list}
	for _, g := range groups {
		heap.Push(h, g)
	}
	out := make([]int, 0, len(list))
	for h.Len() > 0 {
		g := heap.Pop(h).(group)
		out = append(out, g.next)
		g.next++
		// A group without rows has no cell to be held against the others.
		if g.next < g.end {
			heap.Push(h, g)
		}
	}
	return out
}

// nextRows is a heap of the groups that have rows left, by their next rows.
type nextRows struct {
	list   []api.Cell
	groups []group
}

func (h *nextRows) Len() int { return len(h.groups) }

func (h *nextRows) Less(i, j int) bool {
	a, b := h.groups[i].next, h.groups[j].next
	if less(h.list[a], h.list[b]) {
		return true
	}
	if less(h.list[b], h.list[a]) {
		return false
	}
	return a < b
}

func (h *nextRows) Swap(i, j int) {
	h.groups[i], h.groups[j] = h.groups[j], h.groups[i]
}

func (h *nextRows) Push(x any) {
	h.groups = append(h.groups, x.(group))
}

func (h *nextRows) Pop() any {
	last := len(h.groups) - 1
	g := h.groups[last]
	h.groups = h.groups[:last]
	return g
}
