package table

import (
	"strata/api"
	"strata/cells"
	"strata/input"
	"strata/page"
)

// maxDictionary is how many cells a dictionary may have: as many as the widest
// index can tell apart.
const maxDictionary = 1 << api.MaxIndex

// part: a column in a group; the bytes that are left from its next page on, how
// many pages have been read, and their cells.
type part struct {
	column        api.Column
	rows          int
	in            input.Reader
	pages         int
	hasDictionary bool
	dictionary    []api.Cell
	cells         []api.Cell
}

// newPart is a column in a group of so many rows, none of whose pages has been
// read.
func newPart(c api.Column, rows int, pages []byte) part {
	return part{column: c, rows: rows, in: input.New(pages)}
}

// read reads so many pages, which must have a cell for each row.
func (t *part) read(pages int, p *purse) api.Errno {
	for range pages {
		if e := t.next(p); e != api.OK {
			return e
		}
	}
	if len(t.cells) < t.rows {
		return api.ErrRows
	}
	return api.OK
}

// next reads the next page.
func (t *part) next(p *purse) api.Errno {
	here, ok := page.Next(&t.in)
	if !ok || !t.mayHave(here) {
		return api.ErrPage
	}
	// Paid ahead of unpacking: no more comes out than is allowed.
	if !p.pay(here.Unpacked) {
		return api.ErrBudget
	}
	data, e := here.Bytes()
	if e != api.OK {
		return e
	}
	list, e := cells.Read(data, t.layout(here))
	if e != api.OK {
		return e
	}
	if !p.payCells(list) {
		return api.ErrBudget
	}
	t.keep(here.Sort, list)
	return api.OK
}

// mayHave tells whether such a page may come next.
func (t *part) mayHave(here page.Page) bool {
	switch here.Sort {
	case page.Dictionary:
		return t.pages == 0 && t.column.Kind != api.Bool && here.Cells <= maxDictionary
	case page.Indices:
		return t.hasDictionary && here.Cells <= t.rowsLeft()
	default:
		return here.Cells <= t.rowsLeft()
	}
}

// rowsLeft tells how many rows have no cell yet.
func (t *part) rowsLeft() int {
	return t.rows - len(t.cells)
}

// layout tells how the page's cells are written.
func (t *part) layout(here page.Page) cells.Layout {
	return cells.Layout{
		Kind:       t.column.Kind,
		Nulls:      t.column.Optional && here.Sort != page.Dictionary,
		Count:      here.Cells,
		Indices:    here.Sort == page.Indices,
		Dictionary: t.dictionary,
	}
}

// keep keeps the cells of a page of that sort.
func (t *part) keep(sort page.Sort, list []api.Cell) {
	t.pages++
	if sort == page.Dictionary {
		t.hasDictionary = true
		t.dictionary = list
		return
	}
	t.cells = append(t.cells, list...)
}
