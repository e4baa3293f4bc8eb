// Package order tells the rows of a file in the order of a column.
package order

import (
	"strata/api"
	"strata/footer"
	"strata/table"
)

// Of tells the numbers of all rows of the file that data is, in the order of
// their cells in the column, equal ones by their numbers.
func Of(data []byte, column, budget int) ([]int, api.Errno) {
	t, _, e := table.Read(data, budget)
	if e != api.OK {
		return nil, e
	}
	if column < 0 || column >= len(t.Columns) {
		return nil, api.ErrArg
	}
	// The table has all rows behind one another: where a group ends, the footer
	// alone tells.
	shape, e := footer.Look(data)
	if e != api.OK {
		return nil, e
	}
	list, groups := t.Cells[column], groupsOf(shape.Rows)
	if !inOrder(list, groups) {
		return nil, api.ErrOrder
	}
	return merge(list, groups), api.OK
}

// group: the number of its next row, and that of the first row behind it.
type group struct {
	next int
	end  int
}

// groupsOf are groups of so many rows each, one behind the other.
func groupsOf(rows []int) []group {
	var out []group
	begins := 0
	for _, count := range rows {
		out = append(out, group{next: begins, end: begins + count})
		begins += count
	}
	return out
}

// inOrder tells whether in no group a cell is less than the one ahead of it.
func inOrder(list []api.Cell, groups []group) bool {
	for _, g := range groups {
		for row := g.next + 1; row < g.end; row++ {
			if less(list[row], list[row-1]) {
				return false
			}
		}
	}
	return true
}

// less tells whether a comes ahead of b, of one column. What its kind or null
// lacks is 0 or empty in a cell, so the kind need not be asked.
func less(a, b api.Cell) bool {
	if a.Null != b.Null {
		return a.Null
	}
	if a.N != b.N {
		return a.N < b.N
	}
	return a.S < b.S
}
