package table

import "strata/api"

// mayBe tells whether the table may be written in groups of so many rows.
func mayBe(t api.Table, rows int) bool {
	// The shape first: it bounds how much there is to go through.
	return hasShape(t, rows) && hasColumns(t.Columns) && hasCells(t)
}

// hasShape tells whether there are as many columns, lists and cells as may be.
func hasShape(t api.Table, rows int) bool {
	count := len(t.Columns)
	if count < 1 || count > api.MaxColumns || len(t.Cells) != count {
		return false
	}
	length := len(t.Cells[0])
	for _, list := range t.Cells {
		if len(list) != length {
			return false
		}
	}
	return length <= api.MaxTotal && length <= rows*api.MaxGroups
}

// hasColumns tells whether all columns may be, and beside one another.
func hasColumns(columns []api.Column) bool {
	for i, c := range columns {
		if len(c.Name) < 1 || len(c.Name) > api.MaxName || hasName(columns[:i:i], c.Name) {
			return false
		}
		if c.Kind < api.Bool || c.Kind > api.Text {
			return false
		}
	}
	return true
}

// hasName tells whether one of the columns has that name.
func hasName(columns []api.Column, name string) bool {
	for _, c := range columns {
		if c.Name == name {
			return true
		}
	}
	return false
}

// hasCells tells whether all cells may be in their columns.
func hasCells(t api.Table) bool {
	for i, c := range t.Columns {
		for _, cell := range t.Cells[i] {
			if !fits(cell, c) {
				return false
			}
		}
	}
	return true
}

// fits tells whether the cell may be in the column: nothing is in it that its
// kind, or null, lacks.
func fits(cell api.Cell, c api.Column) bool {
	switch {
	case cell.Null:
		return c.Optional && cell.N == 0 && cell.S == ""
	case c.Kind == api.Bool:
		return (cell.N == 0 || cell.N == 1) && cell.S == ""
	case c.Kind == api.Int:
		return cell.S == ""
	default:
		return cell.N == 0 && len(cell.S) <= api.MaxText
	}
}
