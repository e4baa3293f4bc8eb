// Package table reads the table that a file holds, within a budget, and writes
// the file of a table.
package table

import (
	"strata/api"
	"strata/footer"
)

// Read tells the table of the file that data is, and how much of the budget
// was used.
func Read(data []byte, budget int) (api.Table, int, api.Errno) {
	if budget < 0 || budget > api.MaxBudget {
		return api.Table{}, 0, api.ErrArg
	}
	f, e := footer.Read(data)
	if e != api.OK {
		return api.Table{}, 0, e
	}
	p := purse{left: budget}
	t := api.Table{Columns: f.Columns, Cells: make([][]api.Cell, len(f.Columns))}
	for _, g := range f.Groups {
		for i, place := range g.Places {
			part := newPart(f.Columns[i], g.Rows, f.Pages(data, place))
			if e := part.read(place.Pages, &p); e != api.OK {
				return api.Table{}, 0, e
			}
			t.Cells[i] = append(t.Cells[i], part.cells...)
		}
	}
	return t, budget - p.left, api.OK
}
