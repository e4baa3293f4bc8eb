package strata_test

import (
	"bytes"
	"math"
	"math/rand"
	"slices"
	"strings"
	"testing"

	"strata/api"
	"strata/strata"
)

func wantOrder(t *testing.T, data []byte, column int, want []int) {
	t.Helper()
	got, e := strata.Order(data, column, api.MaxBudget)
	if !slices.Equal(got, want) || e != api.OK {
		t.Errorf("P9: Order(%.100x, %d) = %.50v, %d, want %.50v", data, column, got, e, want)
	}
}

func wantNoOrder(t *testing.T, data []byte, column, budget int, want api.Errno) {
	t.Helper()
	if got, e := strata.Order(data, column, budget); got != nil || e != want {
		t.Errorf("P9: Order(%.100x, %d, %d) = %.50v, %d, want error %d", data, column, budget, got, e, want)
	}
}

// inGroups is a file of one column, with a plain page for each group.
func inGroups(c api.Column, groups ...[]api.Cell) []byte {
	var list []pagesOf
	for _, cells := range groups {
		list = append(list, pagesOf{len(cells), [][][]byte{{pageOf(plain, len(cells), plainBody(c, cells))}}})
	}
	return laid([]api.Column{c}, list...)
}

func TestP9OneGroup(t *testing.T) {
	wantOrder(t, example(), 0, []int{0, 1})
	wantOrder(t, framed("", footerBytes([]api.Column{intColumn})), 0, nil)
	wantOrder(t, inGroups(intColumn, numbers(7)), 0, []int{0})
	wantOrder(t, inGroups(intColumn, numbers(7, 7, 7)), 0, []int{0, 1, 2})
	wantOrder(t, inGroups(intColumn, numbers(math.MinInt, -256, -255, -2, -1, 0, 1, 255, 256, 1<<32, math.MaxInt)), 0, []int{0, 1, 2, 3, 4, 5, 6, 7, 8, 9, 10})
}

func TestP9Groups(t *testing.T) {
	for _, c := range []struct {
		column api.Column
		groups [][]api.Cell
		want   []int
	}{
		{intColumn, [][]api.Cell{numbers(1, 4), numbers(2, 3)}, []int{0, 2, 3, 1}},
		{intColumn, [][]api.Cell{numbers(5, 6), numbers(3, 4), numbers(1, 2)}, []int{4, 5, 2, 3, 0, 1}},
		// Groups of different sizes.
		{intColumn, [][]api.Cell{numbers(9), numbers(1, 5, 9, 13), numbers(2, 9)}, []int{1, 5, 2, 0, 3, 6, 4}},
		// Equal ones by their numbers, not by how the heap goes.
		{intColumn, [][]api.Cell{numbers(2, 2), numbers(1, 2), numbers(2, 2), numbers(2, 3)}, []int{2, 0, 1, 3, 4, 5, 6, 7}},
		{intColumn, [][]api.Cell{numbers(3), numbers(3), numbers(3), numbers(2), numbers(3), numbers(1), numbers(3)}, []int{5, 3, 0, 1, 2, 4, 6}},
		{boolColumn, [][]api.Cell{numbers(1, 1), numbers(0, 1), numbers(0, 0)}, []int{2, 4, 5, 0, 1, 3}},
		// Numbers below 0.
		{intColumn, [][]api.Cell{numbers(-1, 1), numbers(-2, 0, 2), numbers(math.MinInt, math.MaxInt)}, []int{5, 2, 0, 3, 1, 4, 6}},
		{intColumn, [][]api.Cell{numbers(0, 1<<62), numbers(-1<<62, 0)}, []int{2, 0, 3, 1}},
		// Null is less than anything, also below 0; and than an empty text and noughts.
		{nullable(intColumn), [][]api.Cell{{null, {N: math.MinInt}}, {null, null, {N: 0}}, numbers(-5, 5)}, []int{0, 2, 3, 1, 5, 4, 6}},
		{nullable(intColumn), [][]api.Cell{numbers(math.MinInt, -1, 0), {null, {N: 0}}}, []int{3, 0, 1, 2, 4}},
		{nullable(boolColumn), [][]api.Cell{numbers(0, 1), {null, {N: 0}}, {null, null}}, []int{2, 4, 5, 0, 3, 1}},
		{nullable(textColumn), [][]api.Cell{texts("", "a"), {null, {S: ""}, {S: "a"}}, {null}}, []int{2, 5, 0, 3, 1, 4}},
		// Texts byte by byte: longer is greater, and bytes have no sign.
		{textColumn, [][]api.Cell{texts("a", "b"), texts("", "aa", "ab"), texts("B", "\x80", "\xff")}, []int{2, 5, 0, 3, 4, 1, 6, 7}},
		{textColumn, [][]api.Cell{texts("a\x00", "a\x00\x00"), texts("a", "a\x01"), texts("\x00", "a\xff")}, []int{4, 2, 0, 1, 3, 5}},
		{textColumn, [][]api.Cell{texts("z", "ä"), texts("é")}, []int{0, 1, 2}},
		{textColumn, [][]api.Cell{texts("10", "9"), texts("100")}, []int{0, 2, 1}},
	} {
		wantOrder(t, inGroups(c.column, c.groups...), 0, c.want)
	}
}

func TestP9EachColumn(t *testing.T) {
	columns := []api.Column{{Name: "up", Kind: api.Int}, {Name: "down", Kind: api.Int}, {Name: "t", Kind: api.Text}}
	table := api.Table{Columns: columns, Cells: [][]api.Cell{numbers(1, 2, 3), numbers(3, 2, 1), texts("b", "b", "a")}}
	data, e := strata.Write(table, 1)
	if e != api.OK {
		t.Fatalf("P8: error %d", e)
	}
	wantOrder(t, data, 0, []int{0, 1, 2})
	wantOrder(t, data, 1, []int{2, 1, 0})
	wantOrder(t, data, 2, []int{2, 0, 1})
	// What other columns are in does not count.
	data, _ = strata.Write(table, 3)
	wantOrder(t, data, 0, []int{0, 1, 2})
	wantNoOrder(t, data, 1, 10000, api.ErrOrder)
	wantNoOrder(t, data, 2, 10000, api.ErrOrder)
	data, _ = strata.Write(table, 2)
	wantNoOrder(t, data, 1, 10000, api.ErrOrder)
	wantOrder(t, data, 2, []int{2, 0, 1})
}

func TestP9Columns(t *testing.T) {
	for count := 1; count <= 20; count++ {
		table := api.Table{Columns: columnsOf(count), Cells: slices.Repeat([][]api.Cell{numbers(2, 1)}, count)}
		data, _ := strata.Write(table, 1)
		empty := framed("", footerBytes(columnsOf(count)))
		for column := -2; column < 24; column++ {
			if column >= 0 && column < count {
				wantOrder(t, data, column, []int{1, 0})
				wantOrder(t, empty, column, nil)
				continue
			}
			wantNoOrder(t, data, column, 10000, api.ErrArg)
			wantNoOrder(t, empty, column, 0, api.ErrArg)
		}
		for _, column := range []int{math.MinInt, -1 << 32, 1 << 31, 1 << 32, 1<<32 + 1, math.MaxInt} {
			wantNoOrder(t, data, column, 10000, api.ErrArg)
		}
	}
}

func TestP9NotInOrder(t *testing.T) {
	for _, c := range []struct {
		column api.Column
		cells  []api.Cell
	}{
		{intColumn, numbers(2, 1)}, {intColumn, numbers(0, -1)}, {intColumn, numbers(math.MaxInt, math.MinInt)}, {boolColumn, numbers(1, 0)},
		{textColumn, texts("a", "")}, {textColumn, texts("b", "ab")}, {textColumn, texts("\x80", "\x7f")}, {textColumn, texts("aa", "a")},
		{nullable(intColumn), []api.Cell{{N: math.MinInt}, null}}, {nullable(boolColumn), []api.Cell{{N: 0}, null}}, {nullable(textColumn), []api.Cell{{S: ""}, null}},
	} {
		low, high := c.cells[1], c.cells[0]
		good := []api.Cell{low, low, high, high}
		wantOrder(t, inGroups(c.column, good, good, good), 0, []int{0, 1, 4, 5, 8, 9, 2, 3, 6, 7, 10, 11})
		// Wherever the lesser one is, and in whichever group; but not from group to group.
		for at := range 3 {
			for where := range 3 {
				bad := slices.Repeat([]api.Cell{high}, 4)
				bad[at+1] = low
				groups := [][]api.Cell{good, good, good}
				groups[where] = bad
				wantNoOrder(t, inGroups(c.column, groups...), 0, 10000, api.ErrOrder)
				wantNoOrder(t, inGroups(c.column, groups...), 1, 10000, api.ErrArg)
			}
		}
	}
}

func TestP9ErrorsOfRead(t *testing.T) {
	// Each of them ahead of a column that is not there, and of cells not in order.
	bad := inGroups(intColumn, numbers(2, 1), numbers(3))
	for _, column := range []int{-1, 0, 1} {
		for _, budget := range []int{math.MinInt, -1, api.MaxBudget + 1, math.MaxInt} {
			wantNoOrder(t, bad, column, budget, api.ErrArg)
			wantNoOrder(t, nil, column, budget, api.ErrArg)
		}
		wantNoOrder(t, nil, column, 1000, api.ErrFile)
		wantNoOrder(t, bad[:len(bad)-1], column, 1000, api.ErrFile)
		wantNoOrder(t, bad, column, 47, api.ErrBudget)
		wantNoOrder(t, framed("", []byte("\x00")), column, 1000, api.ErrFooter)
		for _, at := range []int{len(bad) - 5, 13, 29 + 9} { // the sums of the footer and of the pages; a value
			changed := bytes.Clone(bad)
			changed[at] ^= 1
			wantNoOrder(t, changed, column, 1000, api.ErrSum)
		}
		for faults, want := range map[int]api.Errno{badHead: api.ErrPage, badSum: api.ErrSum, badPack: api.ErrPack, badLevel: api.ErrLevel, badValue: api.ErrValue} {
			page, _, _ := faultyPage(faults)
			wantNoOrder(t, only(nullable(textColumn), 2, page), column, 1000, want)
			// In a column that is not asked for, too.
			good := pageOf(plain, 2, valueBytes(api.Int, numbers(2, 1)))
			columns := []api.Column{{Name: "n", Kind: api.Int}, nullable(textColumn)}
			wantNoOrder(t, laid(columns, pagesOf{2, [][][]byte{{good}, {page}}}), column, 1000, want)
		}
		page, _, _ := faultyPage(0)
		wantNoOrder(t, only(nullable(textColumn), 3, page), column, 1000, api.ErrRows)
	}
	wantNoOrder(t, bad, 1, 48, api.ErrArg)
	wantNoOrder(t, bad, 0, 48, api.ErrOrder)
	// Just what is used is enough.
	if got, e := strata.Order(example(), 0, 32); !slices.Equal(got, []int{0, 1}) || e != api.OK {
		t.Errorf("P9: Order = %v, %d", got, e)
	}
	wantNoOrder(t, example(), 0, 31, api.ErrBudget)
	wantNoOrder(t, example(), 7, 31, api.ErrBudget)
}

func TestP9ManyGroups(t *testing.T) {
	// As many groups and rows as may be, of one page or of another.
	body := func(step int) []byte {
		var cells []api.Cell
		for i := range 1000 {
			cells = append(cells, api.Cell{N: i * step})
		}
		return pageOf(plain, 1000, valueBytes(api.Int, cells))
	}
	first, second := body(1), body(2)
	var groups []group
	for i := range 50 {
		groups = append(groups, group{1000, []place{{4 + i%2*len(first), 1}}})
	}
	data := framed(string(first)+string(second), footerBytes([]api.Column{intColumn}, groups...))
	var want []int
	for n := range 2000 {
		for i := range 50 {
			switch {
			case i%2 == 0 && n < 1000:
				want = append(want, 1000*i+n)
			case i%2 == 1 && n%2 == 0:
				want = append(want, 1000*i+n/2)
			}
		}
	}
	wantOrder(t, data, 0, want)
}

func TestP9DictionariesAndPages(t *testing.T) {
	// The cells of a group may lie in several pages, packed or not, and in a dictionary.
	c := nullable(textColumn)
	words := texts("m", "a", "z")
	book := pageOf(dictionary, 3, valueBytes(api.Text, words))
	first := []api.Cell{null, words[1], words[0]}
	second := []api.Cell{words[0], words[2]}
	group := pagesOf{5, [][][]byte{{book, pageOf(indices, 3, indexBody(c, 2, first, words)), packedPage(plain, 2, plainBody(c, second))}}}
	data := laid([]api.Column{c}, group, group)
	wantOrder(t, data, 0, []int{0, 5, 1, 6, 2, 3, 7, 8, 4, 9})
	// A cell is held against the one ahead of it in another page, too.
	group.columns[0][2] = packedPage(plain, 2, plainBody(c, texts("b", "z")))
	wantNoOrder(t, laid([]api.Column{c}, group, group), 0, 1000, api.ErrOrder)
}

func TestP9LongTexts(t *testing.T) {
	long := strings.Repeat("t", 999)
	table := tableOf(textColumn, texts(long+"b", long+"c", long, long+"b", long+"a", long+"d")...)
	data, _ := strata.Write(table, 2)
	wantOrder(t, data, 0, []int{2, 4, 0, 3, 1, 5})
}

func TestP9AnyFile(t *testing.T) {
	m := maker{Rand: rand.New(rand.NewSource(9)), inOrder: true}
	for range 2000 {
		data, want := m.file()
		for column := range want.Columns {
			if _, e := strata.Order(data, column, m.used); e != api.OK {
				t.Fatalf("P9: Order(%x, %d, %d): error %d", data, column, m.used, e)
			}
			checkOrder(t, data, column, m.used)
			checkOrder(t, data, column, m.Intn(m.used+1))
		}
		checkOrder(t, data, m.Intn(20)-10, m.used)
	}
}

func TestP9SpoiltFiles(t *testing.T) {
	m := maker{Rand: rand.New(rand.NewSource(99))}
	var met [api.ErrOrder + 1]int
	for range 10000 {
		m.spoil = 5 << m.Intn(8)
		m.inOrder = m.Intn(2) == 0
		data, _ := m.file()
		column, budget := m.Intn(6)-1, m.used+m.Intn(100)
		checkOrder(t, data, column, budget)
		_, e := strata.Order(data, column, budget)
		met[e]++
	}
	for _, e := range []api.Errno{api.OK, api.ErrArg, api.ErrPage, api.ErrSum, api.ErrPack, api.ErrLevel, api.ErrValue, api.ErrRows, api.ErrOrder} {
		if met[e] < 20 {
			t.Errorf("P9: the spoilt files are too much alike: %v", met)
		}
	}
}
