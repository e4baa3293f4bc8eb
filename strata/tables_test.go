package strata_test

import (
	"math/rand"
	"slices"
	"strconv"

	"strata/api"
	"strata/strata"
)

// tableOf is a table of one column.
func tableOf(c api.Column, cells ...api.Cell) api.Table {
	return api.Table{Columns: []api.Column{c}, Cells: [][]api.Cell{cells}}
}

// cloned is a table that shares no memory with this one.
func cloned(t api.Table) api.Table {
	out := api.Table{Columns: slices.Clone(t.Columns)}
	for _, list := range t.Cells {
		out.Cells = append(out.Cells, slices.Clone(list))
	}
	return out
}

// tableInWords tells whether a table may be written, as the document's words say.
func tableInWords(t api.Table, rows int) bool {
	if len(t.Columns) < 1 || len(t.Columns) > 20 || len(t.Cells) != len(t.Columns) {
		return false
	}
	names := map[string]int{}
	for i, c := range t.Columns {
		names[c.Name]++
		total := len(t.Cells[i])
		if total != len(t.Cells[0]) || total > 5000 || (total+rows-1)/rows > 50 {
			return false
		}
		if len(c.Name) < 1 || len(c.Name) > 20 || names[c.Name] > 1 || c.Kind < 0 || c.Kind > 2 {
			return false
		}
		for _, x := range t.Cells[i] {
			if x.Null && (!c.Optional || x.N != 0 || x.S != "") || !x.Null && c.Kind == api.Bool && x.N != 0 && x.N != 1 {
				return false
			}
			if len(x.S) > 1000 || c.Kind != api.Text && x.S != "" || c.Kind == api.Text && x.N != 0 {
				return false
			}
		}
	}
	return true
}

// runsInWords writes numbers in runs as a file has them that is written.
func runsInWords(width int, numbers []int) []byte {
	var out []byte
	for at := 0; at < len(numbers); {
		end := at
		for end < len(numbers) && numbers[end] == numbers[at] {
			end++
		}
		if end-at >= 8 {
			out = append(out, equalRun(numbers[at], width, end-at)...)
			at = end
			continue
		}
		eight := make([]int, 8)
		at += copy(eight, numbers[at:])
		out = append(out, eightsRun(width, eight)...)
	}
	return out
}

// pagesInWords are the pages of a column in a group as a file has them that is
// written, and what they use of the budget.
func pagesInWords(c api.Column, cells []api.Cell) ([][]byte, int) {
	values, levels := notNull(cells)
	var body []byte
	if c.Optional {
		runs := runsInWords(1, levels)
		body = append(varint(len(runs)), runs...)
	}
	var words []api.Cell
	var places []int
	at := map[api.Cell]int{}
	for _, v := range values {
		if _, known := at[v]; !known {
			at[v] = len(words)
			words = append(words, v)
		}
		places = append(places, at[v])
	}
	if c.Kind != api.Text || len(words) == len(values) {
		body = append(body, valueBytes(c.Kind, values)...)
		return [][]byte{pageOf(plain, len(cells), body)}, costOf(len(body), cells)
	}
	width := 0
	for len(words) > 1<<width {
		width++
	}
	book := valueBytes(c.Kind, words)
	body = slices.Concat(body, []byte{byte(width)}, runsInWords(width, places))
	pages := [][]byte{pageOf(dictionary, len(words), book), pageOf(indices, len(cells), body)}
	return pages, costOf(len(book), words) + costOf(len(body), cells)
}

// writeInWords writes a file as the document's words say, and tells what it
// uses of the budget.
func writeInWords(t api.Table, rows int) (data []byte, used int, e api.Errno) {
	if rows < 1 || rows > 1000 {
		return nil, 0, api.ErrArg
	}
	if !tableInWords(t, rows) {
		return nil, 0, api.ErrTable
	}
	var groups []pagesOf
	for from := 0; from < len(t.Cells[0]); from += rows {
		to := min(from+rows, len(t.Cells[0]))
		g := pagesOf{rows: to - from}
		for i, c := range t.Columns {
			pages, cost := pagesInWords(c, t.Cells[i][from:to])
			g.columns = append(g.columns, pages)
			used += cost
		}
		groups = append(groups, g)
	}
	return laid(t.Columns, groups...), used, api.OK
}

// compareInWords holds two cells of a column against each other.
func compareInWords(kind api.Kind, a, b api.Cell) int {
	switch {
	case a.Null && b.Null:
		return 0
	case a.Null:
		return -1
	case b.Null:
		return 1
	case kind == api.Text:
		return slices.Compare([]byte(a.S), []byte(b.S))
	case a.N < b.N:
		return -1
	case a.N > b.N:
		return 1
	}
	return 0
}

// orderInWords tells the order of a column as the document's words say.
func orderInWords(data []byte, column, budget int) ([]int, api.Errno) {
	t, _, e := readInWords(data, budget)
	if e != api.OK {
		return nil, e
	}
	if column < 0 || column >= len(t.Columns) {
		return nil, api.ErrArg
	}
	compare := func(a, b int) int {
		return compareInWords(t.Columns[column].Kind, t.Cells[column][a], t.Cells[column][b])
	}
	shape, _ := strata.Look(data)
	var rows []int
	for _, count := range shape.Rows {
		for i := range count {
			rows = append(rows, len(rows))
			if i > 0 && compare(len(rows)-1, len(rows)-2) < 0 {
				return nil, api.ErrOrder
			}
		}
	}
	slices.SortStableFunc(rows, compare)
	return rows, api.OK
}

// anyTable makes a table by chance.
func anyTable(r *rand.Rand) api.Table {
	m := maker{Rand: r}
	t := api.Table{Columns: columnsOf(1 + r.Intn(1+r.Intn(6)))}
	total := r.Intn(1 + r.Intn(120))
	for i := range t.Columns {
		c := &t.Columns[i]
		c.Kind, c.Optional = api.Kind(r.Intn(3)), r.Intn(2) == 0
		var words []api.Cell
		for range 1 + r.Intn(1+r.Intn(50)) {
			words = append(words, m.cell(*c))
		}
		var list []api.Cell
		for len(list) < total {
			next := words[r.Intn(len(words))]
			if r.Intn(4) == 0 {
				next = m.cell(*c)
			}
			times := 1
			if r.Intn(6) == 0 {
				times = 1 + r.Intn(20)
			}
			list = append(list, slices.Repeat([]api.Cell{next}, min(times, total-len(list)))...)
		}
		t.Cells = append(t.Cells, list)
	}
	return t
}

// spoiltTable changes something of a table, by chance into something that may
// not be.
func spoiltTable(r *rand.Rand, t api.Table) api.Table {
	out := cloned(t)
	at := r.Intn(len(out.Columns))
	c, list := &out.Columns[at], &out.Cells[at]
	text := make([]byte, []int{0, 1, 20, 21, 1000, 1001}[r.Intn(6)])
	switch r.Intn(8) {
	case 0:
		c.Name = string(text)
	case 1:
		c.Name = strconv.Itoa(r.Intn(3))
	case 2:
		c.Kind = api.Kind(r.Intn(7) - 2)
	case 3:
		c.Optional = !c.Optional
	case 4:
		*list = append(*list, api.Cell{})
	case 5:
		out.Cells = append(out.Cells, nil)
	default:
		if len(*list) == 0 {
			*list = make([]api.Cell, 1)
		}
		x := &(*list)[r.Intn(len(*list))]
		switch r.Intn(3) {
		case 0:
			x.Null = !x.Null
		case 1:
			x.N = r.Intn(5) - 2
		default:
			x.S = string(text)
		}
	}
	return out
}
