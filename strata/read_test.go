package strata_test

import (
	"bytes"
	"math"
	"math/rand"
	"slices"
	"strings"
	"testing"

	"strata/api"
	"strata/strata"
)

var (
	intColumn  = api.Column{Name: "a", Kind: api.Int}
	boolColumn = api.Column{Name: "a", Kind: api.Bool}
	textColumn = api.Column{Name: "a", Kind: api.Text}
)

// nullable is the column, made optional.
func nullable(c api.Column) api.Column {
	c.Optional = true
	return c
}

func numbers(list ...int) []api.Cell {
	var out []api.Cell
	for _, n := range list {
		out = append(out, api.Cell{N: n})
	}
	return out
}

func texts(list ...string) []api.Cell {
	var out []api.Cell
	for _, s := range list {
		out = append(out, api.Cell{S: s})
	}
	return out
}

var null = api.Cell{Null: true}

func sameTable(a, b api.Table) bool {
	return slices.Equal(a.Columns, b.Columns) && slices.EqualFunc(a.Cells, b.Cells, slices.Equal[[]api.Cell])
}

// wantRead wants the table with all budgets that are great enough, and with
// none that is less.
func wantRead(t *testing.T, data []byte, want api.Table, used int) {
	t.Helper()
	for _, budget := range []int{used, used + 1, api.MaxBudget} {
		got, n, e := strata.Read(data, budget)
		if !sameTable(got, want) || n != used || e != api.OK {
			t.Errorf("P7: Read(%.100x, %d) = %.300v, %d, %d, want %.300v, %d", data, budget, got, n, e, want, used)
		}
	}
	for budget := max(used-3, 0); budget < used; budget++ {
		wantNoRead(t, data, budget, api.ErrBudget)
	}
}

// wantCells wants the cells of a file that has one column.
func wantCells(t *testing.T, data []byte, c api.Column, want []api.Cell, used int) {
	t.Helper()
	wantRead(t, data, api.Table{Columns: []api.Column{c}, Cells: [][]api.Cell{want}}, used)
}

func wantNoRead(t *testing.T, data []byte, budget int, want api.Errno) {
	t.Helper()
	got, n, e := strata.Read(data, budget)
	if got.Columns != nil || got.Cells != nil || n != 0 || e != want {
		t.Errorf("P7: Read(%.100x, %d) = %.100v, %d, %d, want error %d", data, budget, got, n, e, want)
	}
}

func TestP7Example(t *testing.T) {
	wantCells(t, example(), intColumn, numbers(1, 2), 32)
	if got := only(intColumn, 2, pageOf(plain, 2, valueBytes(api.Int, numbers(1, 2)))); !bytes.Equal(got, example()) {
		t.Errorf("the example is %x, and not %x", example(), got)
	}
}

func TestP7Budget(t *testing.T) {
	empty := framed("", footerBytes([]api.Column{intColumn}))
	for _, data := range [][]byte{nil, []byte("STRA"), example(), empty} {
		for _, budget := range []int{-1, -32, math.MinInt, api.MaxBudget + 1, 1 << 31, 1 << 32, math.MaxInt} {
			wantNoRead(t, data, budget, api.ErrArg)
		}
	}
	for _, budget := range []int{0, 1, api.MaxBudget} {
		wantNoRead(t, nil, budget, api.ErrFile)
	}
	wantCells(t, empty, intColumn, nil, 0)
}

func TestP7NoGroups(t *testing.T) {
	for count := 1; count <= 20; count++ {
		columns := columnsOf(count)
		want := api.Table{Columns: columns, Cells: make([][]api.Cell, count)}
		wantRead(t, framed("pages", footerBytes(columns)), want, 0)
	}
}

func TestP7ErrorsOfLook(t *testing.T) {
	good := example()
	for n := range good {
		wantNoRead(t, good[:n], 100, api.ErrFile)
	}
	for at := range good {
		for bit := range 8 {
			changed := bytes.Clone(good)
			changed[at] ^= 1 << bit
			if _, want := strata.Look(changed); want != api.OK {
				wantNoRead(t, changed, 0, want)
				wantNoRead(t, changed, 100, want)
			}
		}
	}
	for _, footer := range []string{"", "\x00", "\x01\x01a\x03\x00", "\x01\x01a\x01\x01\x02\x04\x00", "\x01\x01a\x01\x01\x02\x05\x01", "\x01\x01a\x01\x00\x00"} {
		wantNoRead(t, framed("", []byte(footer)), 0, api.ErrFooter)
	}
}

func TestP7Ints(t *testing.T) {
	cells := numbers(0, 1, -1, 255, 256, 1<<31, -1<<31, 1<<32, 1<<32-1, math.MaxInt64, math.MinInt64, 0x0123456789abcdef)
	data := only(intColumn, len(cells), pageOf(plain, len(cells), valueBytes(api.Int, cells)))
	wantCells(t, data, intColumn, cells, 16*len(cells))
	for shift := range 64 {
		cell := numbers(1 << shift)
		wantCells(t, only(intColumn, 1, pageOf(plain, 1, valueBytes(api.Int, cell))), intColumn, cell, 16)
	}
	for size := range 40 {
		data := only(intColumn, 3, pageOf(plain, 3, make([]byte, size)))
		if size != 24 {
			wantNoRead(t, data, 1000, api.ErrValue)
		}
	}
}

func TestP7Bools(t *testing.T) {
	for count := 1; count <= 20; count++ {
		size := (count + 7) / 8
		for bit := range size * 8 {
			body := make([]byte, size)
			body[bit/8] = 1 << (bit % 8)
			data := only(boolColumn, count, pageOf(plain, count, body))
			if bit >= count { // one that is left over
				wantNoRead(t, data, 1000, api.ErrValue)
				continue
			}
			cells := make([]api.Cell, count)
			cells[bit].N = 1
			wantCells(t, data, boolColumn, cells, size+8*count)
		}
		for other := range size + 3 {
			if other != size {
				wantNoRead(t, only(boolColumn, count, pageOf(plain, count, make([]byte, other))), 1000, api.ErrValue)
			}
		}
	}
}

func TestP7Texts(t *testing.T) {
	cells := texts("", "a", "\x00", "\xff\xfe", "\x80", strings.Repeat("x", 127), strings.Repeat("y", 128), strings.Repeat("z", 20000))
	body := valueBytes(api.Text, cells)
	wantCells(t, only(textColumn, len(cells), pageOf(plain, len(cells), body)), textColumn, cells, costOf(len(body), cells))
	short := valueBytes(api.Text, texts("ab", "", "c"))
	for n := range short {
		wantNoRead(t, only(textColumn, 3, pageOf(plain, 3, short[:n])), 1000, api.ErrValue)
	}
	for b := range 256 {
		wantNoRead(t, only(textColumn, 3, pageOf(plain, 3, append(bytes.Clone(short), byte(b)))), 1000, api.ErrValue)
	}
	for _, body := range []string{"\x81\x00a", "\x80\x00", "\x80", "\x02a", "\xff\xff\xff\xff\x0fa", "\x80\x80\x80\x80\x10", "\xff\xff\xff\xff\xff\x01a"} {
		wantNoRead(t, only(textColumn, 1, pageOf(plain, 1, []byte(body))), 1000, api.ErrValue)
	}
}

func TestP7Nulls(t *testing.T) {
	for _, c := range []api.Column{boolColumn, intColumn, textColumn} {
		c = nullable(c)
		for pattern := range 64 {
			var cells []api.Cell
			for i := range 6 {
				switch {
				case pattern>>i&1 == 0:
					cells = append(cells, null)
				case c.Kind == api.Text:
					cells = append(cells, api.Cell{S: strings.Repeat("t", i)})
				default:
					cells = append(cells, api.Cell{N: i % 2})
				}
			}
			body := plainBody(c, cells)
			wantCells(t, only(c, 6, pageOf(plain, 6, body)), c, cells, costOf(len(body), cells))
			wantCells(t, only(c, 6, packedPage(plain, 6, body)), c, cells, costOf(len(body), cells))
		}
	}
}

func TestP7Levels(t *testing.T) {
	c := nullable(boolColumn)
	// What stands ahead of one bit, of a page of some cells.
	for _, bad := range []struct {
		cells int
		body  string
	}{
		{1, ""}, {1, "\x80"}, {1, "\x82\x00\x02\x01"}, {1, "\x03\x02\x01"}, {1, "\xff\xff\xff\xff\x0f\x02\x01"}, {1, "\x80\x80\x80\x80\x10"},
		{1, "\x00\x01"}, {1, "\x01\x02\x01"}, {1, "\x02\x02\x02\x01"}, {1, "\x02\x02\xff\x01"}, {1, "\x03\x02\x01\x00\x01"}, {1, "\x04\x02\x01\x02\x01\x01"},
		{1, "\x02\x00\x01\x01"}, {1, "\x02\x01\x01\x01"}, {1, "\x02\x04\x01\x01"}, {1, "\x02\x03\x03\x01"}, {1, "\x03\x05\x01\x00\x01"},
		{2, "\x02\x02\x01\x01"}, {9, "\x02\x03\xff\xff\x01"}, {0, "\x02\x02\x00"}, {0, "\x01\x00"}, {0, ""},
	} {
		if bad.cells == 0 {
			wantNoRead(t, only(c, 1, pageOf(plain, 0, []byte(bad.body)), pageOf(plain, 1, []byte("\x02\x02\x00"))), 1000, api.ErrLevel)
			continue
		}
		wantNoRead(t, only(c, bad.cells, pageOf(plain, bad.cells, []byte(bad.body))), 1000, api.ErrLevel)
		// Of indices, too; not of a dictionary, which has none.
		words := pageOf(dictionary, 1, valueBytes(api.Int, numbers(7)))
		wantNoRead(t, only(nullable(intColumn), bad.cells, words, pageOf(indices, bad.cells, []byte(bad.body))), 1000, api.ErrLevel)
	}
	for body, cells := range map[string][]api.Cell{
		"\x02\x02\x01\x01":         numbers(1),
		"\x02\x03\x01\x01":         numbers(1),
		"\x02\x03\x02\x01":         {null, {N: 1}},
		"\x04\x02\x00\x02\x01\x01": {null, {N: 1}},
		"\x02\x10\x00":             slices.Repeat([]api.Cell{null}, 8),
		"\x04\x03\xff\x02\x00\x55": append(numbers(1, 0, 1, 0, 1, 0, 1, 0), null),
	} {
		wantCells(t, only(c, len(cells), pageOf(plain, len(cells), []byte(body))), c, cells, len(body)+8*len(cells))
	}
	// A column that is not optional has no levels: they would be values.
	wantNoRead(t, only(boolColumn, 1, pageOf(plain, 1, []byte("\x02\x02\x01\x01"))), 1000, api.ErrValue)
	// A level that says there is a value, and none is there; and the other way.
	wantNoRead(t, only(c, 1, pageOf(plain, 1, []byte("\x02\x02\x01"))), 1000, api.ErrValue)
	wantNoRead(t, only(c, 1, pageOf(plain, 1, []byte("\x02\x02\x00\x00"))), 1000, api.ErrValue)
}

func TestP7Dictionaries(t *testing.T) {
	for _, c := range []api.Column{intColumn, textColumn, nullable(intColumn), nullable(textColumn)} {
		words := numbers(5, -5, 5)
		if c.Kind == api.Text {
			words = texts("word", "", "another")
		}
		cells := []api.Cell{words[1], words[0], words[2], words[1]}
		if c.Optional {
			cells[1] = null
		}
		book := valueBytes(c.Kind, words)
		for width := 2; width <= 16; width++ {
			body := indexBody(c, width, cells, words)
			used := costOf(len(book), words) + costOf(len(body), cells)
			wantCells(t, only(c, 4, pageOf(dictionary, 3, book), pageOf(indices, 4, body)), c, cells, used)
			wantCells(t, only(c, 4, packedPage(dictionary, 3, book), packedPage(indices, 4, body)), c, cells, used)
		}
		// Plain pages ahead of, between and behind those of indices.
		first, second := plainBody(c, cells[:1]), indexBody(c, 3, cells[1:2], words)
		third, fourth := plainBody(c, cells[2:3]), indexBody(c, 9, cells[3:], words)
		used := costOf(len(book)+len(first)+len(second)+len(third)+len(fourth), slices.Concat(words, cells))
		wantCells(t, only(c, 4, pageOf(dictionary, 3, book), pageOf(plain, 1, first), pageOf(indices, 1, second), packedPage(plain, 1, third), pageOf(indices, 1, fourth)), c, cells, used)
		// A dictionary that no page speaks of.
		body := plainBody(c, cells)
		wantCells(t, only(c, 4, pageOf(dictionary, 3, book), pageOf(plain, 4, body)), c, cells, costOf(len(book)+len(body), slices.Concat(words, cells)))
		for n := range book {
			wantNoRead(t, only(c, 4, pageOf(dictionary, 3, book[:n]), pageOf(plain, 4, body)), 1000, api.ErrValue)
		}
		wantNoRead(t, only(c, 4, pageOf(dictionary, 3, append(book, 0)), pageOf(plain, 4, body)), 1000, api.ErrValue)
	}
}

func TestP7DictionaryOfItsGroupAndColumn(t *testing.T) {
	book := pageOf(dictionary, 1, valueBytes(api.Int, numbers(7)))
	other := pageOf(dictionary, 1, valueBytes(api.Int, numbers(8)))
	index := pageOf(indices, 1, []byte("\x00\x02"))
	columns := columnsOf(2)
	data := laid(columns, pagesOf{1, [][][]byte{{book, index}, {other, index}}}, pagesOf{1, [][][]byte{{other, index}, {book, index}}})
	wantRead(t, data, api.Table{Columns: columns, Cells: [][]api.Cell{numbers(7, 8), numbers(8, 7)}}, 4*(8+8+2+8))
	data = laid(columns, pagesOf{1, [][][]byte{{book, index}, {index}}})
	wantNoRead(t, data, 1000, api.ErrPage)
	data = laid(columns[:1], pagesOf{1, [][][]byte{{book, index}}}, pagesOf{1, [][][]byte{{index}}})
	wantNoRead(t, data, 1000, api.ErrPage)
}

func TestP7Indices(t *testing.T) {
	words := texts("a", "bc", "")
	book := pageOf(dictionary, 3, valueBytes(api.Text, words))
	for width := range 256 {
		body := append([]byte{byte(width)}, equalRun(0, width, 2)...)
		data := only(textColumn, 2, book, pageOf(indices, 2, body))
		if width <= 16 {
			wantCells(t, data, textColumn, texts("a", "a"), 6+24+3+len(body)+16+2)
		} else {
			wantNoRead(t, data, 1000, api.ErrValue)
		}
	}
	for index := range 256 {
		data := only(textColumn, 1, book, pageOf(indices, 1, append([]byte{8}, equalRun(index, 8, 1)...)))
		if index < 3 {
			wantCells(t, data, textColumn, words[index:index+1], 6+24+3+3+8+len(words[index].S))
		} else {
			wantNoRead(t, data, 1000, api.ErrValue)
		}
	}
	for _, body := range []string{"", "\x00", "\x01", "\x01\x02", "\x01\x02\x02", "\x01\x02\x00", "\x01\x06\x00", "\x01\x04\x00\x00", "\x01\x04\x00\x02\x00", "\x00\x02\x02\x02", "\x00\x00\x04", "\x01\x03\x04", "\x80\x00\x04"} {
		wantNoRead(t, only(textColumn, 2, book, pageOf(indices, 2, []byte(body))), 1000, api.ErrValue)
	}
	// No values at all: a width, and no runs.
	c := nullable(textColumn)
	for _, words := range [][]api.Cell{nil, texts("abc")} {
		book := valueBytes(api.Text, words)
		for width := range 17 {
			body := append([]byte("\x02\x04\x00"), byte(width))
			wantCells(t, only(c, 2, pageOf(dictionary, len(words), book), pageOf(indices, 2, body)), c, []api.Cell{null, null}, costOf(len(book), words)+4+16)
		}
		wantNoRead(t, only(c, 2, pageOf(dictionary, len(words), book), pageOf(indices, 2, []byte("\x02\x04\x00"))), 1000, api.ErrValue)
		wantNoRead(t, only(c, 2, pageOf(dictionary, len(words), book), pageOf(indices, 2, []byte("\x02\x04\x00\x11"))), 1000, api.ErrValue)
		wantNoRead(t, only(c, 2, pageOf(dictionary, len(words), book), pageOf(indices, 2, []byte("\x02\x04\x00\x00\x02"))), 1000, api.ErrValue)
	}
	// No index is one of a dictionary without cells.
	wantNoRead(t, only(textColumn, 1, pageOf(dictionary, 0, nil), pageOf(indices, 1, []byte("\x00\x02"))), 1000, api.ErrValue)
}

func TestP7TheGreatestDictionary(t *testing.T) {
	const most = 65536
	book := pageOf(dictionary, most, append(make([]byte, most-1), "\x04last"...))
	index := pageOf(indices, 3, append([]byte{16}, leastRuns(16, []int{most - 1, 0, most - 1})...))
	used := most + 4 + 8*most + 4 + 10 + 24 + 8
	wantCells(t, only(textColumn, 3, book, index), textColumn, texts("last", "", "last"), used)
	book = pageOf(dictionary, most+1, make([]byte, most+1))
	wantNoRead(t, only(textColumn, 3, book, index), api.MaxBudget, api.ErrPage)
	wantNoRead(t, only(textColumn, 3, book, index), 0, api.ErrPage)
	// A dictionary may have more cells than the group has rows, and the group all of its rows left.
	book = pageOf(dictionary, 1001, make([]byte, 1001))
	wantCells(t, only(textColumn, 1000, book, pageOf(indices, 1000, []byte("\x00\xd0\x0f"))), textColumn, make([]api.Cell, 1000), 1001*9+3+8000)
}

func TestP7HeadNotWhole(t *testing.T) {
	for _, page := range [][]byte{
		pageOf(plain, 2, valueBytes(api.Int, numbers(1, 2))),
		packedPage(plain, 2, valueBytes(api.Int, numbers(1, 2))),
		pageOf(plain, 0, nil),
		headed(plain, 1, 2, 200, 1<<20, make([]byte, 200)),
	} {
		for n := range page {
			// Whatever stands in the footer, a page ends ahead of it.
			wantNoRead(t, only(intColumn, 2, page[:n]), api.MaxBudget, api.ErrPage)
			wantNoRead(t, only(intColumn, 2, page[:n]), 0, api.ErrPage)
		}
	}
	// A page of no bytes where the footer begins, and one page more than there is.
	whole := pageOf(plain, 2, valueBytes(api.Int, numbers(1, 2)))
	wantNoRead(t, only(intColumn, 2, whole, nil), 1000, api.ErrPage)
	wantNoRead(t, only(intColumn, 2, nil), 1000, api.ErrPage)
}

// headBytes is a page of two ints, with other bytes in the place of one part of
// its head: the sort, the packing, and the three varints.
func headBytes(part int, other string) []byte {
	body := valueBytes(api.Int, numbers(1, 2))
	good := pageOf(plain, 2, body)
	return slices.Concat(good[:part], []byte(other), good[part+1:])
}

func TestP7SortAndPacking(t *testing.T) {
	for b := range 256 {
		if b != 0 {
			wantNoRead(t, only(intColumn, 2, headBytes(0, string([]byte{byte(b)}))), 1000, []api.Errno{0, api.ErrRows, api.ErrPage}[min(b, 2)])
		}
		if b > 1 {
			wantNoRead(t, only(intColumn, 2, headBytes(1, string([]byte{byte(b)}))), 0, api.ErrPage)
		}
	}
	// 16 bytes that are no packed ones.
	wantNoRead(t, only(intColumn, 2, headBytes(1, "\x01")), 1000, api.ErrPack)
}

func TestP7VarintsOfTheHead(t *testing.T) {
	for part := 2; part <= 4; part++ {
		good := pageOf(plain, 2, valueBytes(api.Int, numbers(1, 2)))[part]
		for _, other := range []string{
			string([]byte{good | 0x80, 0}), string([]byte{good | 0x80, 0x80, 0}), string([]byte{good | 0x80, 0x80, 0x80, 0x80, 0}),
			string([]byte{good | 0x80, 0x80, 0x80, 0x80, 0x10}), string([]byte{good | 0x80, 0x80, 0x80, 0x80, 0x80, 1}), "\xff\xff\xff\xff\xff\x7f",
		} {
			wantNoRead(t, only(intColumn, 2, headBytes(part, other)), 1000, api.ErrPage)
			wantNoRead(t, only(intColumn, 2, headBytes(part, other)), 0, api.ErrPage)
		}
		for _, n := range []int{128, 1 << 14, 1 << 20, 1<<31 - 1, 1 << 31, 1<<31 + 2, 1<<32 - 1} {
			wantNoRead(t, only(intColumn, 2, headBytes(part, string(varint(n)))), api.MaxBudget, api.ErrPage)
		}
	}
}

func TestP7Cells(t *testing.T) {
	page := func(count int) []byte { return pageOf(plain, count, make([]byte, 8*count)) }
	for rows := 1; rows < 12; rows++ {
		for first := range 12 {
			for second := range 12 {
				data := only(intColumn, rows, page(first), page(second))
				switch {
				case first > rows || first+second > rows:
					wantNoRead(t, data, 1000, api.ErrPage)
				case first+second < rows:
					wantNoRead(t, data, 1000, api.ErrRows)
				default:
					wantCells(t, data, intColumn, make([]api.Cell, rows), 16*rows)
				}
			}
		}
	}
	wantCells(t, only(intColumn, 1000, page(1000)), intColumn, make([]api.Cell, 1000), 16000)
	wantNoRead(t, only(intColumn, 1000, page(1001)), 0, api.ErrPage)
	wantNoRead(t, only(intColumn, 1000, page(999)), 100000, api.ErrRows)
	// Of indices, too; a dictionary's own cells are no rows.
	book := pageOf(dictionary, 2, make([]byte, 16))
	index := func(count int) []byte { return pageOf(indices, count, append([]byte{0}, varint(count*2)...)) }
	wantNoRead(t, only(intColumn, 2, book), 1000, api.ErrRows)
	wantNoRead(t, only(intColumn, 2, book, index(1)), 1000, api.ErrRows)
	wantNoRead(t, only(intColumn, 2, book, index(3)), 1000, api.ErrPage)
	wantNoRead(t, only(intColumn, 2, book, page(1), index(2)), 1000, api.ErrPage)
	wantCells(t, only(intColumn, 2, book, page(1), index(1)), intColumn, make([]api.Cell, 2), 32+16+2+8)
	// Each group anew.
	columns := []api.Column{intColumn}
	wantNoRead(t, laid(columns, pagesOf{1, [][][]byte{{page(1)}}}, pagesOf{3, [][][]byte{{page(2)}}}), 1000, api.ErrRows)
	wantNoRead(t, laid(columns, pagesOf{1, [][][]byte{{page(1)}}}, pagesOf{1, [][][]byte{{page(2)}}}), 1000, api.ErrPage)
	wantNoRead(t, laid(columns, pagesOf{3, [][][]byte{{page(2)}}}, pagesOf{2, [][][]byte{{page(3)}}}), 1000, api.ErrRows)
}

func TestP7EmptyPages(t *testing.T) {
	for _, c := range []api.Column{boolColumn, intColumn, textColumn, nullable(boolColumn), nullable(intColumn), nullable(textColumn)} {
		cells := make([]api.Cell, 3)
		body, none := plainBody(c, cells), plainBody(c, nil)
		pages := slices.Repeat([][]byte{pageOf(plain, 0, none)}, 49)
		for at := range 50 {
			wantCells(t, only(c, 3, slices.Insert(slices.Clone(pages), at, pageOf(plain, 3, body))...), c, cells, len(body)+24+49*len(none))
		}
		wantCells(t, only(c, 3, packedPage(plain, 0, none), packedPage(plain, 3, body)), c, cells, len(body)+24+len(none))
		wantNoRead(t, only(c, 3, pages...), 1000, api.ErrRows)
	}
}

func TestP7OnlyTheFirstPageIsADictionary(t *testing.T) {
	book := pageOf(dictionary, 1, valueBytes(api.Int, numbers(7)))
	index := pageOf(indices, 1, []byte("\x00\x02"))
	empty := pageOf(plain, 0, nil)
	wantCells(t, only(intColumn, 1, book, index), intColumn, numbers(7), 8+8+2+8)
	for _, pages := range [][][]byte{{book, book, index}, {empty, book, index}, {book, index, book}, {index}, {empty, index}, {index, book}, {book, empty, book, index}, {pageOf(plain, 1, make([]byte, 8)), book}} {
		wantNoRead(t, only(intColumn, 1, pages...), 1000, api.ErrPage)
	}
	for _, c := range []api.Column{boolColumn, nullable(boolColumn)} {
		book := pageOf(dictionary, 2, []byte{2})
		wantNoRead(t, only(c, 1, book, pageOf(plain, 1, plainBody(c, numbers(1)))), 0, api.ErrPage)
		wantNoRead(t, only(c, 1, pageOf(dictionary, 0, nil), index), 1000, api.ErrPage)
	}
}

func TestP7StoredBytesEndAheadOfTheFooter(t *testing.T) {
	body := valueBytes(api.Int, numbers(1, 2))
	for more := 1; more < 40; more++ {
		// So many bytes that they would lie in the footer and behind it.
		stored := len(body) + more
		wantNoRead(t, only(intColumn, 2, headed(plain, 0, 2, stored, stored, body)), 0, api.ErrPage)
		wantNoRead(t, only(intColumn, 2, headed(plain, 1, 2, stored, 16, body)), 0, api.ErrPage)
	}
}

func TestP7BytesUnpacked(t *testing.T) {
	body := valueBytes(api.Int, numbers(1, 2))
	for size := range 40 {
		if size != len(body) {
			wantNoRead(t, only(intColumn, 2, headed(plain, 0, 2, len(body), size, body)), 0, api.ErrPage)
			stored := packed(len(body), literal(body, 0))
			wantNoRead(t, only(intColumn, 2, headed(plain, 1, 2, len(stored), size, stored)), 1000, api.ErrPack)
			wantNoRead(t, only(intColumn, 2, headed(plain, 1, 2, len(stored), size, stored)), size-1, []api.Errno{api.ErrArg, api.ErrBudget}[min(size, 1)])
		}
	}
	for _, stored := range []string{"", "\x80", "\x10", "\x81\x00", "\x10\x3c" + strings.Repeat("x", 15), "\x10\x3c" + strings.Repeat("x", 17), "\x10\x01\x00", "\x10\x00\x00\x3e\x02\x00"} {
		wantNoRead(t, only(intColumn, 2, headed(plain, 1, 2, len(stored), 16, []byte(stored))), 1000, api.ErrPack)
	}
	wantCells(t, only(intColumn, 2, headed(plain, 1, 2, 6, 16, []byte("\x10\x00\x00\x3a\x01\x00"))), intColumn, numbers(0, 0), 32)
}

func TestP7TheGreatestPages(t *testing.T) {
	const most = 1 << 20
	// A text that fills a page: three bytes say how long it is.
	body := valueBytes(api.Text, texts(strings.Repeat("t", most-3)))
	cells := texts(strings.Repeat("t", most-3))
	wantCells(t, only(textColumn, 1, packedPage(plain, 1, body)), textColumn, cells, 2*most+5)
	wantCells(t, only(textColumn, 1, pageOf(plain, 1, body)), textColumn, cells, 2*most+5)
	// One more may be if it is not packed.
	body = valueBytes(api.Text, texts(strings.Repeat("t", most-2)))
	wantNoRead(t, only(textColumn, 1, packedPage(plain, 1, body)), api.MaxBudget, api.ErrPage)
	wantNoRead(t, only(textColumn, 1, packedPage(plain, 1, body)), 0, api.ErrPage)
	wantCells(t, only(textColumn, 1, pageOf(plain, 1, body)), textColumn, texts(strings.Repeat("t", most-2)), 2*most+7)
	bomb := []byte("\x00")
	wantNoRead(t, only(textColumn, 1, headed(plain, 1, 1, 1, most, bomb)), most-1, api.ErrBudget)
	wantNoRead(t, only(textColumn, 1, headed(plain, 1, 1, 1, most, bomb)), most, api.ErrPack)
	wantNoRead(t, only(textColumn, 1, headed(plain, 1, 1, 1, most+1, bomb)), 0, api.ErrPage)
}

func TestP7WhatADictionaryCosts(t *testing.T) {
	// One long text, told a thousand times by a few bytes.
	words := texts(strings.Repeat("t", 100000))
	book := pageOf(dictionary, 1, valueBytes(api.Text, words))
	index := pageOf(indices, 1000, append([]byte{0}, varint(2000)...))
	used := (100003 + 8 + 100000) + (3 + 1000*100008)
	wantCells(t, only(textColumn, 1000, book, index), textColumn, slices.Repeat(words, 1000), used)
	// More than any budget.
	pages := slices.Concat([][]byte{book}, slices.Repeat([][]byte{index}, 11))
	groups := slices.Repeat([]pagesOf{{1000, [][][]byte{pages[:2]}}}, 11)
	wantNoRead(t, laid([]api.Column{textColumn}, groups...), api.MaxBudget, api.ErrBudget)
}

// faults of a page, in the order of the errors they bring.
const (
	badHead = 1 << iota
	dear
	badSum
	badPack
	badLevel
	badValue
	dearCells
	badRows
	allFaults
)

var faultErrors = []api.Errno{api.ErrPage, api.ErrBudget, api.ErrSum, api.ErrPack, api.ErrLevel, api.ErrValue, api.ErrBudget, api.ErrRows}

// firstOf is the error of the first of some faults.
func firstOf(faults int) api.Errno {
	for i, e := range faultErrors {
		if faults>>i&1 == 1 {
			return e
		}
	}
	return api.OK
}

// faultyPage is a packed page of an optional text column, of two cells, with
// faults; and what it uses up to the step 2, and in all.
func faultyPage(faults int) (page []byte, first, used int) {
	levels, values := "\x02\x04\x01", "\x02ab\x03cde"
	if faults&badLevel != 0 {
		levels = "\x02\x06\x01"
	}
	if faults&badValue != 0 {
		values += "x"
	}
	body := []byte(levels + values)
	stored := packed(len(body), literal(body, 0))
	unpacked := len(body)
	if faults&badPack != 0 {
		unpacked++
	}
	cells := 2
	if faults&badHead != 0 {
		cells = 500
	}
	page = headed(plain, 1, cells, len(stored), unpacked, stored)
	if faults&badSum != 0 {
		page[len(page)-1] ^= 0x10
		page[len(page)-len(stored)-1] ^= 0x10
	}
	return page, unpacked, unpacked + 16 + 5
}

// budgetOf is the greatest budget with which a page that has such faults is not
// read, or the least with which it is.
func budgetOf(faults, first, used int) int {
	switch {
	case faults&dear != 0:
		return first - 1
	case faults&dearCells != 0:
		return used - 1
	}
	return used
}

func TestP7TheErrorNamedFirst(t *testing.T) {
	c := nullable(textColumn)
	for faults := range allFaults {
		page, first, used := faultyPage(faults)
		rows := 2
		if faults&badRows != 0 {
			rows = 3
		}
		data := only(c, rows, page)
		if faults == 0 {
			wantCells(t, data, c, texts("ab", "cde"), used)
			continue
		}
		want := firstOf(faults)
		wantNoRead(t, data, budgetOf(faults, first, used), want)
		// An error of Look comes ahead of all, and one of the budget ahead of that.
		data[len(data)-5] ^= 1
		wantNoRead(t, data, budgetOf(faults, first, used), api.ErrSum)
		data[len(data)-1] ^= 1
		wantNoRead(t, data, budgetOf(faults, first, used), api.ErrFile)
		wantNoRead(t, data, -1, api.ErrArg)
	}
}

func TestP7OneByOne(t *testing.T) {
	c := nullable(textColumn)
	other := nullable(api.Column{Name: "b", Kind: api.Text})
	for _, faults := range []int{badHead, dear, badSum, badPack, badLevel, badValue, dearCells} {
		for _, behind := range []int{0, badHead, badSum, badPack, badLevel, badValue} {
			page, first, used := faultyPage(faults)
			next, _, _ := faultyPage(behind)
			budget, want := budgetOf(faults, first, used), firstOf(faults)
			// The next page of the column, of the next column, of the next group.
			wantNoRead(t, only(c, 9, page, next), budget, want)
			wantNoRead(t, laid([]api.Column{c, other}, pagesOf{2, [][][]byte{{page}, {next}}}), budget, want)
			wantNoRead(t, laid([]api.Column{c}, pagesOf{2, [][][]byte{{page}}}, pagesOf{2, [][][]byte{{next}}}), budget, want)
			// Behind one that is good: what this one uses counts.
			good, _, cost := faultyPage(0)
			wantNoRead(t, only(c, 4, good, page, next), cost+budget, want)
			wantNoRead(t, laid([]api.Column{c, other}, pagesOf{2, [][][]byte{{good}, {page}}}, pagesOf{2, [][][]byte{{next}, {next}}}), cost+budget, want)
			wantNoRead(t, laid([]api.Column{c, other}, pagesOf{2, [][][]byte{{good}, {good}}}, pagesOf{2, [][][]byte{{page}, {next}}}), 2*cost+budget, want)
		}
		// Too few rows are told ahead of the next column and the next group.
		good, _, cost := faultyPage(0)
		page, _, _ := faultyPage(faults)
		wantNoRead(t, laid([]api.Column{c, other}, pagesOf{3, [][][]byte{{good}, {page}}}), cost, api.ErrRows)
		wantNoRead(t, laid([]api.Column{c}, pagesOf{3, [][][]byte{{good}}}, pagesOf{2, [][][]byte{{page}}}), cost, api.ErrRows)
	}
}

func TestP7ColumnsAndGroups(t *testing.T) {
	columns := []api.Column{{Name: "n", Kind: api.Int}, {Name: "b", Kind: api.Bool, Optional: true}, {Name: "t", Kind: api.Text}}
	cells := [][][]api.Cell{
		{numbers(1, 2), {null, {N: 1}}, texts("x", "")},
		{numbers(3), numbers(0), texts("yy")},
		{numbers(5, 4, 6), {{N: 1}, null, null}, texts("z", "z", "zz")},
	}
	want := api.Table{Columns: columns, Cells: make([][]api.Cell, 3)}
	var groups []pagesOf
	used := 0
	for _, g := range cells {
		here := pagesOf{rows: len(g[0])}
		for i, list := range g {
			body := plainBody(columns[i], list)
			here.columns = append(here.columns, [][]byte{pageOf(plain, len(list), body)})
			want.Cells[i] = append(want.Cells[i], list...)
			used += costOf(len(body), list)
		}
		groups = append(groups, here)
	}
	wantRead(t, laid(columns, groups...), want, used)
}

func TestP7PlacesInAnyOrder(t *testing.T) {
	columns := columnsOf(2)
	first := pageOf(plain, 1, valueBytes(api.Int, numbers(1)))
	second := pageOf(plain, 1, valueBytes(api.Int, numbers(2)))
	size := len(first)
	want := func(a, b place, rows int, cells ...[]api.Cell) {
		t.Helper()
		pages := "pp" + string(second) + "ppp" + string(first) + string(second) + "p"
		data := framed(pages, footerBytes(columns, group{rows, []place{a, b}}))
		wantRead(t, data, api.Table{Columns: columns, Cells: cells}, 16*2*rows)
	}
	at2, at1 := 4+2, 4+2+size+3
	want(place{at1, 1}, place{at2, 1}, 1, numbers(1), numbers(2))
	want(place{at2, 1}, place{at1, 1}, 1, numbers(2), numbers(1))
	// Two columns may speak of one page.
	want(place{at1, 1}, place{at1, 1}, 1, numbers(1), numbers(1))
	want(place{at1, 2}, place{at1, 2}, 2, numbers(1, 2), numbers(1, 2))
	want(place{at1 + size, 1}, place{at2, 1}, 1, numbers(2), numbers(2))
}

func TestP7TheGreatestFile(t *testing.T) {
	// As many columns, groups, rows and pages as may be, of one and the same pages.
	columns := columnsOf(20)
	for i := range columns {
		columns[i].Kind = api.Bool
	}
	page := pageOf(plain, 20, []byte{0xff, 0xff, 0x0f})
	places := slices.Repeat([]place{{4, 50}}, 20)
	data := framed(strings.Repeat(string(page), 50), footerBytes(columns, slices.Repeat([]group{{1000, places}}, 50)...))
	list := slices.Repeat(numbers(1), 50*1000)
	got, used, e := strata.Read(data, api.MaxBudget)
	if e != api.OK || used != 50*20*50*(3+160) || len(got.Cells) != 20 {
		t.Fatalf("P7: %d lists, %d, %d", len(got.Cells), used, e)
	}
	for i, cells := range got.Cells {
		if !slices.Equal(cells, list) {
			t.Errorf("P7: the column %d is another one", i)
		}
	}
	wantNoRead(t, data, used-1, api.ErrBudget)
}

func TestP7AnyFile(t *testing.T) {
	m := maker{Rand: rand.New(rand.NewSource(7))}
	for range 3000 {
		data, want := m.file()
		wantRead(t, data, want, m.used)
	}
}

func TestP7SpoiltFiles(t *testing.T) {
	m := maker{Rand: rand.New(rand.NewSource(77))}
	var met [api.ErrOrder + 1]int
	for range 20000 {
		m.spoil = 5 << m.Intn(6)
		data, _ := m.file()
		budget := m.used + m.Intn(100)
		if m.Intn(4) == 0 {
			budget = m.Intn(m.used + 1)
		}
		checkRead(t, data, budget)
		_, _, e := strata.Read(data, budget)
		met[e]++
	}
	for _, e := range []api.Errno{api.OK, api.ErrPage, api.ErrBudget, api.ErrSum, api.ErrPack, api.ErrLevel, api.ErrValue, api.ErrRows} {
		if met[e] < 100 {
			t.Errorf("P7: the spoilt files are too much alike: %v", met)
		}
	}
}
