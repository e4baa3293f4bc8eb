package table

import (
	"strata/api"
	"strata/cells"
	"strata/footer"
	"strata/output"
	"strata/page"
)

// Write tells the file of the table, in groups of so many rows.
func Write(t api.Table, rows int) ([]byte, api.Errno) {
	if rows < 1 || rows > api.MaxRows {
		return nil, api.ErrArg
	}
	if !mayBe(t, rows) {
		return nil, api.ErrTable
	}
	var file output.Writer
	footer.Begin(&file)
	groups := writeGroups(&file, t, rows)
	footer.End(&file, t.Columns, groups)
	return file.Bytes(), api.OK
}

// writeGroups writes the pages of all groups, and tells where they are.
func writeGroups(file *output.Writer, t api.Table, rows int) []footer.Group {
	var groups []footer.Group
	length := len(t.Cells[0])
	for from := 0; from < length; from += rows {
		to := min(from+rows, length)
		groups = append(groups, writeGroup(file, t, from, to))
	}
	return groups
}

// writeGroup writes the pages of the rows from one up to another, and tells
// where they are.
func writeGroup(file *output.Writer, t api.Table, from, to int) footer.Group {
	g := footer.Group{Rows: to - from}
	for i, c := range t.Columns {
		first := file.Size()
		pages := writePart(file, c, t.Cells[i][from:to:to])
		g.Places = append(g.Places, footer.Place{First: first, Pages: pages})
	}
	return g
}

// writePart writes the pages of a column in a group, and tells how many.
func writePart(file *output.Writer, c api.Column, list []api.Cell) int {
	if c.Kind == api.Text {
		if d := cells.DictionaryOf(list); d.Repeats() {
			page.Write(file, page.Dictionary, len(d.Words), cells.Plain(d.Words, c.Kind, false))
			page.Write(file, page.Indices, len(list), d.Indices(list, c.Optional))
			return 2
		}
	}
	page.Write(file, page.Plain, len(list), cells.Plain(list, c.Kind, c.Optional))
	return 1
}
