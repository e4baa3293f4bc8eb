package strata_test

import (
	"bytes"
	"math"
	"math/rand"
	"slices"
	"strconv"
	"strings"
	"testing"

	"strata/api"
	"strata/strata"
)

func wantWritten(t *testing.T, table api.Table, rows int, want []byte) {
	t.Helper()
	got, e := strata.Write(table, rows)
	if !bytes.Equal(got, want) || e != api.OK {
		t.Errorf("P8: Write(%.200v, %d) = %.300x (%d bytes), %d, want %.300x (%d bytes)", table, rows, got, len(got), e, want, len(want))
	}
}

func wantNotWritten(t *testing.T, table api.Table, rows int, want api.Errno) {
	t.Helper()
	if got, e := strata.Write(table, rows); got != nil || e != want {
		t.Errorf("P8: Write(%.200v, %d) = %.100x, %d, want error %d", table, rows, got, e, want)
	}
}

// wantBack wants a table to be written as the document's words say, and to be
// read again with just what is used.
func wantBack(t *testing.T, table api.Table, rows int) {
	t.Helper()
	data, used, e := writeInWords(table, rows)
	if e != api.OK {
		t.Errorf("the table %.200v may not be written", table)
		return
	}
	wantWritten(t, table, rows, data)
	wantRead(t, data, table, used)
}

func TestP8Example(t *testing.T) {
	for _, rows := range []int{2, 3, 10, 1000} {
		wantWritten(t, tableOf(intColumn, numbers(1, 2)...), rows, example())
	}
}

func TestP8Rows(t *testing.T) {
	good := tableOf(intColumn, numbers(1, 2)...)
	bad := tableOf(intColumn, null)
	for _, rows := range []int{math.MinInt, -1000, -1, 0, 1001, 1 << 31, 1 << 32, 1<<32 + 1, math.MaxInt} {
		// Named ahead of what the table lacks.
		for _, table := range []api.Table{good, bad, {}, tableOf(intColumn)} {
			wantNotWritten(t, table, rows, api.ErrArg)
		}
	}
	for _, rows := range []int{1, 2, 999, 1000} {
		wantBack(t, good, rows)
		wantNotWritten(t, bad, rows, api.ErrTable)
	}
}

func TestP8HowManyColumns(t *testing.T) {
	for count := range 25 {
		table := api.Table{Columns: columnsOf(count), Cells: slices.Repeat([][]api.Cell{numbers(7, -7)}, count)}
		if count >= 1 && count <= 20 {
			wantBack(t, table, 1)
		} else {
			wantNotWritten(t, table, 1, api.ErrTable)
		}
		// Not as many lists as columns, though a list more would be empty.
		for lists := range 25 {
			table.Cells = make([][]api.Cell, lists)
			if lists != count || count < 1 || count > 20 {
				wantNotWritten(t, table, 1, api.ErrTable)
			}
		}
	}
}

func TestP8NotAsLong(t *testing.T) {
	for at := range 3 {
		for length := range 5 {
			table := api.Table{Columns: columnsOf(3), Cells: [][]api.Cell{numbers(1, 2), numbers(1, 2), numbers(1, 2)}}
			table.Cells[at] = make([]api.Cell, length)
			if length == 2 {
				wantBack(t, table, 10)
			} else {
				wantNotWritten(t, table, 10, api.ErrTable)
			}
		}
	}
}

func TestP8HowManyRowsAndGroups(t *testing.T) {
	for _, rows := range []int{1, 2, 3, 7, 20, 99} {
		for total := 49*rows - 1; total <= 51*rows+1; total++ {
			table := tableOf(boolColumn, make([]api.Cell, total)...)
			if total <= 50*rows {
				wantBack(t, table, rows)
			} else {
				wantNotWritten(t, table, rows, api.ErrTable)
			}
		}
	}
	for _, total := range []int{0, 1, 4999, 5000} {
		for _, rows := range []int{100, 101, 999, 1000} {
			wantBack(t, tableOf(boolColumn, make([]api.Cell, total)...), rows)
		}
	}
	for _, total := range []int{5001, 5100, 50000, 100000} {
		for _, rows := range []int{1, 100, 102, 1000} {
			wantNotWritten(t, tableOf(boolColumn, make([]api.Cell, total)...), rows, api.ErrTable)
		}
	}
}

func TestP8Names(t *testing.T) {
	for size := range 24 {
		for at := range 3 {
			table := api.Table{Columns: columnsOf(3), Cells: make([][]api.Cell, 3)}
			table.Columns[at].Name = strings.Repeat("\xff", size)
			if size >= 1 && size <= 20 {
				wantBack(t, table, 1)
			} else {
				wantNotWritten(t, table, 1, api.ErrTable)
			}
		}
	}
	// Bytes, and no letters, are counted.
	wantBack(t, tableOf(api.Column{Name: "ääääääääää"}), 1)
	wantNotWritten(t, tableOf(api.Column{Name: "äääääääääää"}), 1, api.ErrTable)
}

func TestP8NoTwoNamesTheSame(t *testing.T) {
	for a := range 20 {
		for b := range a {
			table := api.Table{Columns: columnsOf(20), Cells: make([][]api.Cell, 20)}
			table.Columns[b].Kind, table.Columns[b].Optional = api.Text, true
			table.Columns[a].Name = table.Columns[b].Name
			wantNotWritten(t, table, 1, api.ErrTable)
		}
	}
	names := []string{"a", "A", "a ", "aa", "\x00", "a\x00"}
	table := api.Table{Columns: columnsOf(len(names)), Cells: make([][]api.Cell, len(names))}
	for i, name := range names {
		table.Columns[i].Name = name
	}
	wantBack(t, table, 1)
}

func TestP8Kinds(t *testing.T) {
	for _, kind := range []api.Kind{math.MinInt, -256, -1, 0, 1, 2, 3, 4, 5, 6, 255, 256, 257, 1 << 32, math.MaxInt} {
		for _, optional := range []bool{false, true} {
			c := api.Column{Name: "a", Kind: kind, Optional: optional}
			for _, table := range []api.Table{tableOf(c), tableOf(c, api.Cell{})} {
				if kind >= 0 && kind <= 2 {
					wantBack(t, table, 1)
				} else {
					wantNotWritten(t, table, 1, api.ErrTable)
				}
			}
		}
	}
}

func TestP8CellsThatMayNotBe(t *testing.T) {
	for _, c := range []struct {
		column api.Column
		cell   api.Cell
		may    bool
	}{
		{boolColumn, api.Cell{N: 0}, true}, {boolColumn, api.Cell{N: 1}, true},
		{boolColumn, api.Cell{N: 2}, false}, {boolColumn, api.Cell{N: -1}, false}, {boolColumn, api.Cell{N: 256}, false}, {boolColumn, api.Cell{N: 257}, false}, {boolColumn, api.Cell{N: math.MinInt}, false},
		{boolColumn, api.Cell{S: "x"}, false}, {boolColumn, api.Cell{N: 1, S: "x"}, false}, {boolColumn, api.Cell{S: "\x00"}, false},
		{intColumn, api.Cell{N: math.MinInt}, true}, {intColumn, api.Cell{N: math.MaxInt}, true}, {intColumn, api.Cell{N: -1}, true},
		{intColumn, api.Cell{S: "x"}, false}, {intColumn, api.Cell{N: 5, S: "x"}, false}, {intColumn, api.Cell{N: 5, S: "\x00"}, false},
		{textColumn, api.Cell{}, true}, {textColumn, api.Cell{S: strings.Repeat("t", 1000)}, true}, {textColumn, api.Cell{S: "\xff\x00"}, true},
		{textColumn, api.Cell{S: strings.Repeat("t", 1001)}, false}, {textColumn, api.Cell{S: strings.Repeat("t", 100000)}, false}, {textColumn, api.Cell{S: strings.Repeat("ä", 501)}, false},
		{textColumn, api.Cell{N: 1}, false}, {textColumn, api.Cell{N: 1, S: "x"}, false}, {textColumn, api.Cell{N: -1, S: "x"}, false},
	} {
		for _, column := range []api.Column{c.column, nullable(c.column)} {
			// The first, one within, the last; alone in its group or not.
			for at := range 12 {
				cells := make([]api.Cell, 12)
				cells[at] = c.cell
				for _, rows := range []int{1, 5, 1000} {
					if c.may {
						wantBack(t, tableOf(column, cells...), rows)
					} else {
						wantNotWritten(t, tableOf(column, cells...), rows, api.ErrTable)
					}
				}
			}
		}
		// In another column of several.
		if !c.may {
			table := api.Table{Columns: columnsOf(3), Cells: [][]api.Cell{numbers(1), numbers(2), {c.cell}}}
			table.Columns[2].Kind = c.column.Kind
			wantNotWritten(t, table, 1, api.ErrTable)
		}
	}
}

func TestP8Nulls(t *testing.T) {
	for _, c := range []api.Column{boolColumn, intColumn, textColumn} {
		for _, cells := range [][]api.Cell{{null}, {null, {}}, {{}, null}, {null, null, null}} {
			wantBack(t, tableOf(nullable(c), cells...), 2)
			wantNotWritten(t, tableOf(c, cells...), 2, api.ErrTable)
		}
		for _, cell := range []api.Cell{{Null: true, N: 1}, {Null: true, N: -1}, {Null: true, S: "x"}, {Null: true, N: 1, S: "x"}, {Null: true, N: 1 << 32}} {
			wantNotWritten(t, tableOf(nullable(c), null, cell), 2, api.ErrTable)
			wantNotWritten(t, tableOf(c, cell), 2, api.ErrTable)
		}
	}
}

// written is a file of one column in one group, of these pages' bytes.
func written(c api.Column, rows int, bodies ...string) []byte {
	if len(bodies) == 1 {
		return only(c, rows, pageOf(plain, rows, []byte(bodies[0])))
	}
	words := 0
	for rest := bodies[0]; len(rest) > 0; words++ {
		rest = rest[1+rest[0]:]
	}
	return only(c, rows, pageOf(dictionary, words, []byte(bodies[0])), pageOf(indices, rows, []byte(bodies[1])))
}

func TestP8Bytes(t *testing.T) {
	a, b, none := api.Cell{S: "a"}, api.Cell{S: "bb"}, api.Cell{}
	eights := func(list ...api.Cell) []api.Cell { return slices.Repeat(list, 8) }
	for _, c := range []struct {
		column api.Column
		cells  []api.Cell
		want   []string
	}{
		{boolColumn, numbers(1), []string{"\x01"}},
		{boolColumn, numbers(0, 1, 1), []string{"\x06"}},
		{boolColumn, numbers(1, 0, 0, 0, 0, 0, 0, 1, 0, 1), []string{"\x81\x02"}},
		{intColumn, numbers(-1, -2), []string{"\xff\xff\xff\xff\xff\xff\xff\xff\xfe\xff\xff\xff\xff\xff\xff\xff"}},
		{intColumn, numbers(0x0123456789abcdef), []string{"\xef\xcd\xab\x89\x67\x45\x23\x01"}},
		{intColumn, numbers(math.MinInt, math.MaxInt), []string{"\x00\x00\x00\x00\x00\x00\x00\x80\xff\xff\xff\xff\xff\xff\xff\x7f"}},
		// Only texts have a dictionary.
		{intColumn, numbers(3, 3), []string{"\x03\x00\x00\x00\x00\x00\x00\x00\x03\x00\x00\x00\x00\x00\x00\x00"}},
		{textColumn, []api.Cell{none}, []string{"\x00"}},
		{textColumn, []api.Cell{b, none, a}, []string{"\x02bb\x00\x01a"}},
		{textColumn, texts(strings.Repeat("t", 128)), []string{"\x80\x01" + strings.Repeat("t", 128)}},
		{textColumn, []api.Cell{none, none}, []string{"\x00", "\x00\x03"}},
		{textColumn, []api.Cell{b, a, b, none}, []string{"\x02bb\x01a\x00", "\x02\x03\x84\x00"}},
		{textColumn, append([]api.Cell{a}, eights(b)...), []string{"\x01a\x02bb", "\x01\x03\xfe\x03\x01"}},
		{textColumn, append(eights(b), a), []string{"\x02bb\x01a", "\x01\x10\x00\x03\x01"}},
		{nullable(intColumn), []api.Cell{null, {N: 5}}, []string{"\x02\x03\x02\x05\x00\x00\x00\x00\x00\x00\x00"}},
		{nullable(intColumn), numbers(5), []string{"\x02\x03\x01\x05\x00\x00\x00\x00\x00\x00\x00"}},
		{nullable(boolColumn), append(eights(null), numbers(1, 0, 1)...), []string{"\x04\x10\x00\x03\x07\x05"}},
		{nullable(boolColumn), append(numbers(1, 0, 1), eights(null)...), []string{"\x04\x03\x07\x03\x00\x05"}},
		{nullable(boolColumn), eights(null, api.Cell{N: 1}), []string{"\x04\x03\xaa\x03\xaa\xff"}},
		{nullable(textColumn), []api.Cell{null, null}, []string{"\x02\x03\x00"}},
		{nullable(textColumn), []api.Cell{null, none, null}, []string{"\x02\x03\x02\x00"}},
		{nullable(textColumn), []api.Cell{null, none, none}, []string{"\x00", "\x02\x03\x06\x00\x03"}},
		{nullable(textColumn), []api.Cell{a, null, b, a}, []string{"\x01a\x02bb", "\x02\x03\x0d\x01\x03\x02"}},
	} {
		wantWritten(t, tableOf(c.column, c.cells...), 1000, written(c.column, len(c.cells), c.want...))
		wantBack(t, tableOf(c.column, c.cells...), 1000)
	}
}

func TestP8Groups(t *testing.T) {
	columns := []api.Column{{Name: "n", Kind: api.Int, Optional: true}, {Name: "text", Kind: api.Text}, {Name: "b", Kind: api.Bool}}
	table := api.Table{Columns: columns, Cells: [][]api.Cell{{{N: 1}, null, {N: 3}}, texts("x", "x", "x"), numbers(0, 1, 1)}}
	pages := [][]byte{
		pageOf(plain, 2, []byte("\x02\x03\x01\x01\x00\x00\x00\x00\x00\x00\x00")),
		pageOf(dictionary, 1, []byte("\x01x")), pageOf(indices, 2, []byte("\x00\x03")),
		pageOf(plain, 2, []byte("\x02")),
		pageOf(plain, 1, []byte("\x02\x03\x01\x03\x00\x00\x00\x00\x00\x00\x00")),
		// The text is there twice, but not in this group.
		pageOf(plain, 1, []byte("\x01x")),
		pageOf(plain, 1, []byte("\x01")),
	}
	footer := "\x03\x01n\x05\x04text\x02\x01b\x00\x02\x02\x04\x01\x18\x02\x2e\x01\x01\x38\x01\x4c\x01\x57\x01"
	wantWritten(t, table, 2, framed(string(bytes.Join(pages, nil)), []byte(footer)))
	for rows := 1; rows <= 4; rows++ {
		wantBack(t, table, rows)
	}
}

func TestP8NoRows(t *testing.T) {
	for count := 1; count <= 20; count++ {
		columns := columnsOf(count)
		for i := range columns {
			columns[i].Kind, columns[i].Optional = api.Kind(i%3), i%2 == 0
		}
		for _, lists := range [][][]api.Cell{make([][]api.Cell, count), slices.Repeat([][]api.Cell{{}}, count)} {
			wantWritten(t, api.Table{Columns: columns, Cells: lists}, 1+count, framed("", footerBytes(columns)))
		}
	}
}

func TestP8EqualOnes(t *testing.T) {
	// So many nulls behind so many cells: runs begin at 8, wherever they come.
	for ahead := range 20 {
		for nulls := range 40 {
			for behind := range 10 {
				cells := slices.Concat(make([]api.Cell, ahead), slices.Repeat([]api.Cell{null}, nulls), make([]api.Cell, behind))
				data, _, _ := writeInWords(tableOf(nullable(boolColumn), cells...), 1000)
				wantWritten(t, tableOf(nullable(boolColumn), cells...), 1000, data)
			}
		}
	}
	for _, times := range []int{7, 8, 9, 63, 64, 65, 999, 1000} {
		wantBack(t, tableOf(textColumn, slices.Repeat(texts("x"), times)...), 1000)
		wantBack(t, tableOf(nullable(textColumn), slices.Repeat([]api.Cell{null}, times)...), 1000)
		wantBack(t, tableOf(textColumn, append(texts("a", "b", "c"), slices.Repeat(texts("x"), times-3)...)...), 1000)
	}
}

func TestP8WidthOfIndices(t *testing.T) {
	for _, words := range []int{1, 2, 3, 4, 5, 7, 8, 9, 15, 16, 17, 31, 32, 33, 63, 64, 65, 127, 128, 129, 255, 256, 257, 511, 512, 513, 999} {
		var cells []api.Cell
		for i := range words {
			cells = append(cells, api.Cell{S: strconv.Itoa(i)})
		}
		// The greatest index is not the last one.
		cells = append(cells, cells[0])
		wantBack(t, tableOf(textColumn, cells...), 1000)
		wantBack(t, tableOf(nullable(textColumn), cells...), 1000)
		wantBack(t, tableOf(textColumn, cells...), 999)
		wantBack(t, tableOf(textColumn, cells[:words]...), 1000)
		many := append(slices.Clone(cells[:words/2]), slices.Repeat(cells[words-1:words], 500)...)
		wantBack(t, tableOf(textColumn, many...), 1000)
	}
}

func TestP8TheGreatestTable(t *testing.T) {
	table := api.Table{Columns: columnsOf(20)}
	long := strings.Repeat("t", 995)
	for i := range table.Columns {
		table.Columns[i].Name = strings.Repeat("n", 18) + strconv.Itoa(10+i)
		table.Columns[i].Kind = api.Text
		var list []api.Cell
		for n := range 5000 {
			list = append(list, api.Cell{S: long + strconv.Itoa(10000+n/2)})
		}
		if i > 0 {
			list = make([]api.Cell, 5000)
		}
		table.Cells = append(table.Cells, list)
	}
	for _, rows := range []int{100, 1000} {
		data, used, e := writeInWords(table, rows)
		wantWritten(t, table, rows, data)
		got, n, e := strata.Read(data, used)
		if !sameTable(got, table) || n != used || e != api.OK {
			t.Errorf("P10: Read = %d lists, %d, %d, want %d", len(got.Cells), n, e, used)
		}
	}
}

func TestP8AnyTable(t *testing.T) {
	r := rand.New(rand.NewSource(8))
	for range 4000 {
		checkWrite(t, anyTable(r), 1+r.Intn(1+r.Intn(60)))
	}
}

func TestP8SpoiltTables(t *testing.T) {
	r := rand.New(rand.NewSource(88))
	var met [api.ErrOrder + 1]int
	for range 20000 {
		table := spoiltTable(r, anyTable(r))
		rows := 5 + r.Intn(40)
		checkWrite(t, table, rows)
		_, e := strata.Write(table, rows)
		met[e]++
	}
	if met[api.OK] < 1000 || met[api.ErrTable] < 1000 {
		t.Errorf("P8: the spoilt tables are too much alike: %v", met)
	}
}

func TestP10Back(t *testing.T) {
	r := rand.New(rand.NewSource(10))
	for range 3000 {
		table := anyTable(r)
		rows := 3 + r.Intn(100)
		data, e := strata.Write(table, rows)
		_, used, _ := writeInWords(table, rows)
		if e != api.OK {
			t.Fatalf("P8: Write(%v, %d): error %d", table, rows, e)
		}
		wantRead(t, data, table, used)
	}
}

// What was read is written again: the table is the same one.
func TestP10ReadAndWritten(t *testing.T) {
	m := maker{Rand: rand.New(rand.NewSource(1010))}
	for range 1000 {
		data, want := m.file()
		table, _, e := strata.Read(data, m.used)
		if e != api.OK {
			t.Fatalf("P7: Read(%x, %d): error %d", data, m.used, e)
		}
		again, e := strata.Write(table, 20)
		got, _, wrong := strata.Read(again, api.MaxBudget)
		if e != api.OK || wrong != api.OK || !sameTable(got, want) {
			t.Fatalf("P10: %v is written with error %d and read as %v, %d", want, e, got, wrong)
		}
	}
}

// wantRefusedOrRead wants an answer that is one of both, and within the budget.
func wantRefusedOrRead(t *testing.T, data []byte, budget int) {
	t.Helper()
	got, used, e := strata.Read(data, budget)
	if e != api.OK && (got.Columns != nil || got.Cells != nil || used != 0) {
		t.Errorf("P10: Read(%x, %d) = %v, %d beside error %d", data, budget, got, used, e)
	}
	if e == api.OK && (used > budget || len(got.Columns) == 0 || len(got.Cells) != len(got.Columns)) {
		t.Errorf("P10: Read(%x, %d) = %v, %d", data, budget, got, used)
	}
	checkRead(t, data, budget)
}

func TestP10EachByteChanged(t *testing.T) {
	columns := []api.Column{{Name: "t", Kind: api.Text, Optional: true}, {Name: "b", Kind: api.Bool}}
	table := api.Table{Columns: columns, Cells: [][]api.Cell{append(texts("xy", "xy"), null), numbers(1, 0, 1)}}
	for rows := 2; rows <= 3; rows++ {
		data, e := strata.Write(table, rows)
		_, used, _ := writeInWords(table, rows)
		if e != api.OK {
			t.Fatalf("P8: error %d", e)
		}
		for at := range data {
			for other := 1; other < 256; other++ {
				changed := bytes.Clone(data)
				changed[at] ^= byte(other)
				for _, budget := range []int{used / 2, used, api.MaxBudget} {
					wantRefusedOrRead(t, changed, budget)
				}
			}
		}
	}
}

func TestP10AByteChanged(t *testing.T) {
	r := rand.New(rand.NewSource(101))
	for range 1000 {
		table := anyTable(r)
		data, _ := strata.Write(table, 5+r.Intn(60))
		_, used, _ := strata.Read(data, api.MaxBudget)
		for range 10 {
			changed := bytes.Clone(data)
			changed[r.Intn(len(changed))] ^= byte(1 + r.Intn(255))
			wantRefusedOrRead(t, changed, used)
			wantRefusedOrRead(t, changed, r.Intn(used+1))
			sumsAgain(changed)
			wantRefusedOrRead(t, changed, used)
		}
	}
}
