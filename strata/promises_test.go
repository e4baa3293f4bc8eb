package strata_test

import (
	"bytes"
	"math"
	"math/rand"
	"slices"
	"sync"
	"testing"

	"strata/api"
	"strata/strata"
)

// checkUnpack holds one answer of Unpack against what holds of all of them.
func checkUnpack(t *testing.T, data []byte, most int) {
	t.Helper()
	got, e := strata.Unpack(data, most)
	if e != api.OK && len(got) != 0 {
		t.Errorf("P1: Unpack(%x, %d): %d bytes beside error %d", data, most, len(got), e)
	}
	if e < api.OK || e > api.ErrPack {
		t.Errorf("P4: Unpack(%x, %d): error %d", data, most, e)
	}
	if (e == api.ErrArg) != (most < 0 || most > api.MaxUnpacked) {
		t.Errorf("P1: Unpack(%x, %d): error %d", data, most, e)
	}
	if len(got) > max(most, 0) {
		t.Errorf("P4: Unpack(%x, %d): %d bytes", data, most, len(got))
	}
}

// checkRuns holds one answer of Runs against what holds of all of them.
func checkRuns(t *testing.T, data []byte, width, count int) {
	t.Helper()
	got, used, e := strata.Runs(data, width, count)
	if e != api.OK && (len(got) != 0 || used != 0) {
		t.Errorf("P1: Runs(%x, %d, %d): %d numbers, %d bytes beside error %d", data, width, count, len(got), used, e)
	}
	if e != api.OK && e != api.ErrArg && e != api.ErrRuns {
		t.Errorf("P5: Runs(%x, %d, %d): error %d", data, width, count, e)
	}
	if (e == api.ErrArg) != (width < 0 || width > api.MaxWidth || count < 0 || count > api.MaxCount) {
		t.Errorf("P1: Runs(%x, %d, %d): error %d", data, width, count, e)
	}
	if e != api.OK {
		return
	}
	if len(got) != count || used < 0 || used > len(data) {
		t.Errorf("P5: Runs(%x, %d, %d): %d numbers, %d bytes", data, width, count, len(got), used)
	}
	for _, n := range got {
		if n < 0 || n >= 1<<width {
			t.Errorf("P5: Runs(%x, %d, %d): a number is %d", data, width, count, n)
		}
	}
}

// checkLook holds one answer of Look against what holds of all of them.
func checkLook(t *testing.T, data []byte) {
	t.Helper()
	got, e := strata.Look(data)
	if want := lookInWords(data); e != want {
		t.Errorf("P6: Look(%x): error %d, want %d", data, e, want)
	}
	if e != api.OK {
		if len(got.Columns) != 0 || len(got.Rows) != 0 {
			t.Errorf("P1: Look(%x): %v beside error %d", data, got, e)
		}
		return
	}
	if n := len(got.Columns); n < 1 || n > api.MaxColumns || len(got.Rows) > api.MaxGroups {
		t.Errorf("P6: Look(%x): %d columns, %d groups", data, n, len(got.Rows))
	}
}

// checkRead holds one answer of Read against what the document's words say.
func checkRead(t *testing.T, data []byte, budget int) {
	t.Helper()
	got, used, e := strata.Read(data, budget)
	want, cost, wrong := readInWords(data, budget)
	if !sameTable(got, want) || used != cost || e != wrong {
		t.Errorf("P7: Read(%x, %d) = %v, %d, %d, want %v, %d, %d", data, budget, got, used, e, want, cost, wrong)
	}
	if e != api.OK && (got.Columns != nil || got.Cells != nil) {
		t.Errorf("P1: Read(%x, %d): %v beside error %d", data, budget, got, e)
	}
}

// checkWrite holds one answer of Write against what the document's words say.
func checkWrite(t *testing.T, table api.Table, rows int) {
	t.Helper()
	got, e := strata.Write(table, rows)
	want, used, wrong := writeInWords(table, rows)
	if !bytes.Equal(got, want) || e != wrong {
		t.Errorf("P8: Write(%v, %d) = %x, %d, want %x, %d", table, rows, got, e, want, wrong)
	}
	if e != api.OK {
		if got != nil {
			t.Errorf("P1: Write(%v, %d): %x beside error %d", table, rows, got, e)
		}
		return
	}
	back, n, e := strata.Read(got, used)
	if !sameTable(back, table) || n != used || e != api.OK {
		t.Errorf("P10: Write(%v, %d) is read as %v, %d, %d, want %d", table, rows, back, n, e, used)
	}
}

// checkOrder holds one answer of Order against what the document's words say.
func checkOrder(t *testing.T, data []byte, column, budget int) {
	t.Helper()
	got, e := strata.Order(data, column, budget)
	want, wrong := orderInWords(data, column, budget)
	if !slices.Equal(got, want) || e != wrong {
		t.Errorf("P9: Order(%x, %d, %d) = %v, %d, want %v, %d", data, column, budget, got, e, want, wrong)
	}
	if e != api.OK && got != nil {
		t.Errorf("P1: Order(%x, %d, %d): %v beside error %d", data, column, budget, got, e)
	}
}

// edges are numbers at and beyond the bounds of every argument.
var edges = []int{-1 << 31, -9, -1, 0, 1, 2, 7, 8, 9, 24, 25, 64, 99999, 100000, 100001, 1 << 20, 1<<20 + 1, 1<<31 - 1}

func TestP1AllShortBytes(t *testing.T) {
	checkUnpack(t, nil, 9)
	checkRuns(t, nil, 3, 9)
	checkLook(t, nil)
	checkRead(t, nil, 9)
	checkOrder(t, nil, 0, 9)
	for a := range 256 {
		checkLook(t, []byte{byte(a)})
		checkLook(t, framed("", []byte{byte(a)}))
		checkUnpack(t, []byte{byte(a)}, 9)
		checkRuns(t, []byte{byte(a)}, a%25, 9)
		for b := range 256 {
			two := []byte{byte(a), byte(b)}
			checkUnpack(t, two, 9)
			checkUnpack(t, append([]byte{9, 0, 'x'}, two...), 9)
			checkRuns(t, two, b%25, 9)
			checkRuns(t, append(two, 0, 0, 0, 1, 2), a%25, 20)
			checkLook(t, two)
			checkLook(t, framed("", two))
			checkLook(t, framed("", append([]byte{1, 1, 'a'}, two...)))
			checkLook(t, framed("", append([]byte{1, 1, 'a', 1, 1, 1}, two...)))
			checkRead(t, framed("", append([]byte{1, 1, 'a', 1, 1, 1}, two...)), a)
			checkRead(t, only(nullable(textColumn), 2, append(two, 0, 0, 0, 0, 0, 0, 0)), b)
			for _, c := range []api.Column{boolColumn, textColumn, nullable(boolColumn), nullable(textColumn)} {
				checkRead(t, only(c, 2, pageOf(plain, 2, two)), 30)
				checkOrder(t, only(c, 2, pageOf(plain, 2, two)), 0, 30)
			}
			checkRead(t, only(textColumn, 2, pageOf(dictionary, 1, []byte("\x01w")), pageOf(indices, 2, two)), 100)
			checkRead(t, only(textColumn, 2, headed(plain, 1, 2, 2, 2, two)), 100)
		}
	}
}

func TestP1AllArguments(t *testing.T) {
	for _, data := range []string{"", "\x00", "\x80", "\x05\x10abcde", "\xff\xff\xff\xff\x0f", "\x10\x01", "\x03\x88\xc6\xfa"} {
		for _, a := range edges {
			checkUnpack(t, []byte(data), a)
			for _, b := range edges {
				checkRuns(t, []byte(data), a, b)
			}
		}
	}
	for _, data := range [][]byte{nil, example(), example()[:40], framed("", footerBytes(columnsOf(2)))} {
		for _, budget := range append(edges, 31, 32, 33, 1<<30-1, 1<<30, 1<<30+1, math.MaxInt, math.MinInt) {
			checkRead(t, data, budget)
			for _, column := range append(edges, math.MaxInt, math.MinInt) {
				checkOrder(t, data, column, budget)
			}
		}
	}
	cells := slices.Repeat(numbers(1), 60)
	for _, table := range []api.Table{
		{}, {Columns: []api.Column{}, Cells: [][]api.Cell{}}, {Columns: columnsOf(1)}, {Cells: [][]api.Cell{cells}}, {Cells: make([][]api.Cell, 1<<16)},
		{Columns: make([]api.Column, 1<<16)}, {Columns: make([]api.Column, 1<<16), Cells: make([][]api.Cell, 1<<16)},
		tableOf(intColumn), tableOf(intColumn, cells...), tableOf(nullable(textColumn), cells...), tableOf(boolColumn, cells...), tableOf(api.Column{}, cells...),
		{Columns: columnsOf(2), Cells: [][]api.Cell{nil, cells}}, {Columns: columnsOf(2), Cells: [][]api.Cell{cells, nil}}, {Columns: columnsOf(2), Cells: [][]api.Cell{cells}},
	} {
		for _, rows := range append(edges, 999, 1000, 1001, math.MaxInt, math.MinInt) {
			checkWrite(t, table, rows)
		}
	}
}

func TestP1ChangedBytes(t *testing.T) {
	r := rand.New(rand.NewSource(1))
	for range 5000 {
		data, want := anyPacked(r)
		data[r.Intn(len(data))] = byte(r.Intn(256))
		checkUnpack(t, data, r.Intn(2*len(want)+1))
		width := r.Intn(api.MaxWidth + 1)
		data, numbers := anyRuns(r, width)
		data[r.Intn(len(data))] = byte(r.Intn(256))
		checkRuns(t, data, width, r.Intn(2*len(numbers)))
		data, _ = anyFile(r)
		data[r.Intn(len(data))] = byte(r.Intn(256))
		checkLook(t, data)
		checkLook(t, data[r.Intn(len(data)):])
		checkLook(t, data[:r.Intn(len(data))])
		checkRead(t, data, r.Intn(1000))
	}
}

// A byte of a page or of the footer is changed, and no sum is written anew.
func TestP1ChangedByteOfAFile(t *testing.T) {
	m := maker{Rand: rand.New(rand.NewSource(11))}
	for range 1000 {
		data, _ := m.file()
		for range 5 {
			changed := bytes.Clone(data)
			changed[m.Intn(len(data))] ^= byte(1 + m.Intn(255))
			checkRead(t, changed, m.used)
			checkRead(t, changed, m.Intn(m.used+1))
			checkOrder(t, changed, m.Intn(5)-1, m.used)
			sumsAgain(changed)
			checkRead(t, changed, m.used)
			checkOrder(t, changed, m.Intn(5)-1, m.used)
		}
	}
}

func FuzzUnpack(f *testing.F) {
	f.Add([]byte("\x06\x00a\x05\x01"), 100)
	f.Add([]byte("\x01\xfc\xff\xff\xff\xffa"), 1)
	f.Fuzz(func(t *testing.T, data []byte, most int) {
		checkUnpack(t, data, most)
		checkUnpack(t, data, most&(1<<20-1))
	})
}

func FuzzRuns(f *testing.F) {
	f.Add([]byte("\x03\x88\xc6\xfa"), 3, 8)
	f.Add([]byte("\xff\xff\xff\xff\x0f"), 0, 100000)
	f.Fuzz(func(t *testing.T, data []byte, width, count int) {
		checkRuns(t, data, width, count)
		checkRuns(t, data, width&15, count&1023)
	})
}

func FuzzLook(f *testing.F) {
	f.Add("", example())
	f.Add("pages", footerBytes(columnsOf(3), groupsOf(2, 1000, 3)...))
	f.Fuzz(func(t *testing.T, pages string, data []byte) {
		checkLook(t, data)
		checkLook(t, framed(pages, data))
	})
}

func FuzzRead(f *testing.F) {
	f.Add(example()[4:29], byte(1), 2, 32)
	f.Add(packedPage(plain, 2, []byte("\x02\x04\x01\x01a\x01b")), byte(6), 2, 100)
	f.Add(append(pageOf(dictionary, 1, []byte("\x01w")), pageOf(indices, 9, []byte("\x00\x12"))...), byte(2), 9, 1000)
	f.Fuzz(func(t *testing.T, pages []byte, kind byte, rows, budget int) {
		checkRead(t, pages, budget)
		c := api.Column{Name: "a", Kind: api.Kind(kind % 3), Optional: kind&4 != 0}
		right := bytes.Clone(pages)
		pageSumsAgain(right)
		for count := 1; count <= 3; count++ {
			footer := footerBytes([]api.Column{c}, group{1 + rows&1023%1000, []place{{4, count}}})
			checkRead(t, framed(string(pages), footer), budget&(1<<20-1))
			checkRead(t, framed(string(right), footer), budget&(1<<20-1))
		}
	})
}

func FuzzWrite(f *testing.F) {
	f.Add(int64(1), 10, "a", 1, 2, "", false, false)
	f.Add(int64(2), 1000, "name", 2, 0, "text", false, true)
	f.Add(int64(3), 7, "", 0, 0, "", true, true)
	f.Fuzz(func(t *testing.T, seed int64, rows int, name string, kind, n int, text string, null, optional bool) {
		r := rand.New(rand.NewSource(seed))
		table := anyTable(r)
		checkWrite(t, table, rows)
		checkWrite(t, table, rows&127)
		at := r.Intn(len(table.Columns))
		table.Columns[at] = api.Column{Name: name, Kind: api.Kind(kind), Optional: optional}
		checkWrite(t, table, 1+rows&127)
		clear(table.Cells[at])
		if len(table.Cells[at]) > 0 {
			table.Cells[at][r.Intn(len(table.Cells[at]))] = api.Cell{Null: null, N: n, S: text}
		}
		checkWrite(t, table, 1+rows&127)
	})
}

func FuzzOrder(f *testing.F) {
	f.Add(example()[4:29], byte(1), 2, 0, 32)
	f.Add(pageOf(plain, 2, []byte("\x01b\x01a")), byte(2), 2, 0, 100)
	f.Fuzz(func(t *testing.T, pages []byte, kind byte, rows, column, budget int) {
		checkOrder(t, pages, column, budget)
		c := api.Column{Name: "a", Kind: api.Kind(kind % 3), Optional: kind&4 != 0}
		right := bytes.Clone(pages)
		pageSumsAgain(right)
		for count := 1; count <= 3; count++ {
			g := group{1 + rows&1023%1000, []place{{4, count}}}
			data := framed(string(right), footerBytes([]api.Column{c}, g, g))
			checkOrder(t, data, column, budget&(1<<20-1))
			checkOrder(t, data, 0, budget&(1<<20-1))
		}
	})
}

// within lays data into the middle of a greater list, so that something stands
// behind it.
func within(data []byte) (whole, piece []byte) {
	whole = bytes.Repeat([]byte{0xa5}, len(data)+200)
	copy(whole[100:], data)
	return whole, whole[100 : 100+len(data)]
}

func TestP2NothingIsWrittenInto(t *testing.T) {
	r := rand.New(rand.NewSource(2))
	for range 500 {
		data, want := anyPacked(r)
		whole, piece := within(data)
		before := bytes.Clone(whole)
		strata.Sum(piece)
		out, e := strata.Unpack(piece, len(want))
		out = out[:cap(out)]
		for i := range out {
			out[i] ^= 0xff
		}
		if e != api.OK || !bytes.Equal(whole, before) {
			t.Fatalf("P2: Unpack(%x): error %d, or what was handed in is shared or changed", data, e)
		}
		wantUnpacked(t, piece, len(want), want)

		width := r.Intn(api.MaxWidth + 1)
		data, numbers := anyRuns(r, width)
		whole, piece = within(data)
		before = bytes.Clone(whole)
		list, _, e := strata.Runs(piece, width, len(numbers))
		list = list[:cap(list)]
		for i := range list {
			list[i] = -1
		}
		if e != api.OK || !bytes.Equal(whole, before) {
			t.Fatalf("P2: Runs(%x): error %d, or what was handed in is changed", data, e)
		}
		wantRuns(t, piece, width, numbers, len(data))

		data, shape := anyFile(r)
		whole, piece = within(data)
		before = bytes.Clone(whole)
		looked, e := strata.Look(piece)
		clear(looked.Columns[:cap(looked.Columns)])
		clear(looked.Rows[:cap(looked.Rows)])
		if e != api.OK || !bytes.Equal(whole, before) {
			t.Fatalf("P2: Look(%x): error %d, or what was handed in is changed", data, e)
		}
		wantLook(t, piece, shape)
	}
}

// filled is a list of cells whose room, all of it, has been written into.
func filled(list []api.Cell) {
	list = list[:cap(list)]
	for i := range list {
		list[i] = api.Cell{Null: true, N: -1, S: "written"}
	}
}

func TestP2WhatReadTells(t *testing.T) {
	m := maker{Rand: rand.New(rand.NewSource(22))}
	for range 500 {
		data, want := m.file()
		whole, piece := within(data)
		before := bytes.Clone(whole)
		got, _, e := strata.Read(piece, m.used)
		another, _, _ := strata.Read(piece, m.used)
		if e != api.OK || !bytes.Equal(whole, before) {
			t.Fatalf("P2: Read(%x): error %d, or what was handed in is changed", data, e)
		}
		clear(whole)
		if !sameTable(got, want) {
			t.Fatalf("P2: what was handed in was kept: %v", got)
		}
		// A list that is written into changes no other one.
		for i := range got.Cells {
			filled(got.Cells[i])
			for j := i + 1; j < len(got.Cells); j++ {
				if !slices.Equal(got.Cells[j], want.Cells[j]) {
					t.Fatalf("P2: the lists %d and %d share memory", i, j)
				}
			}
		}
		clear(got.Columns[:cap(got.Columns)])
		clear(got.Cells[:cap(got.Cells)])
		if !sameTable(another, want) {
			t.Fatalf("P2: what came out of another call has become %v", another)
		}
	}
}

// roomy is the same table, and whole one whose lists go on behind those of it,
// in the same memory.
func roomy(t api.Table) (whole, same api.Table) {
	behind := api.Cell{Null: true, N: 5, S: "behind"}
	whole = cloned(t)
	for i, list := range whole.Cells {
		whole.Cells[i] = append(list, slices.Repeat([]api.Cell{behind}, 50)...)
		same.Cells = append(same.Cells, whole.Cells[i][:len(list)])
	}
	whole.Columns = append(whole.Columns, slices.Repeat([]api.Column{{Name: "behind"}}, 50)...)
	same.Columns = whole.Columns[:len(t.Columns)]
	lists := append(same.Cells, slices.Repeat([][]api.Cell{{behind}}, 50)...)
	same.Cells = lists[:len(t.Cells)]
	whole.Cells = append(whole.Cells, lists[len(t.Cells):]...)
	return whole, same
}

func TestP2WhatWriteIsGiven(t *testing.T) {
	r := rand.New(rand.NewSource(222))
	for range 1000 {
		table := anyTable(r)
		rows := 4 + r.Intn(60)
		whole, same := roomy(table)
		before := cloned(whole)
		got, e := strata.Write(same, rows)
		another, _ := strata.Write(same, rows)
		behind := same.Cells[:cap(same.Cells)][len(same.Cells)]
		if e != api.OK || !sameTable(whole, before) || !sameTable(same, table) || behind[0].S != "behind" {
			t.Fatalf("P2: Write(%v, %d): error %d, or what was handed in is changed", table, rows, e)
		}
		for _, list := range whole.Cells {
			filled(list)
		}
		clear(whole.Columns)
		want, _, _ := writeInWords(table, rows)
		if !bytes.Equal(got, want) {
			t.Fatalf("P2: what was handed in was kept: %x, want %x", got, want)
		}
		clear(got[:cap(got)])
		if !bytes.Equal(another, want) {
			t.Fatalf("P2: what came out of another call has become %x", another)
		}
	}
}

func TestP2WhatOrderTells(t *testing.T) {
	m := maker{Rand: rand.New(rand.NewSource(2222)), inOrder: true}
	for range 500 {
		data, _ := m.file()
		whole, piece := within(data)
		before := bytes.Clone(whole)
		got, e := strata.Order(piece, 0, m.used)
		another, _ := strata.Order(piece, 0, m.used)
		if e != api.OK || !bytes.Equal(whole, before) {
			t.Fatalf("P2: Order(%x): error %d, or what was handed in is changed", data, e)
		}
		clear(whole)
		want, _ := orderInWords(data, 0, m.used)
		if !slices.Equal(got, want) {
			t.Fatalf("P2: what was handed in was kept: %v", got)
		}
		clear(got[:cap(got)])
		if !slices.Equal(another, want) {
			t.Fatalf("P2: what came out of another call has become %v", another)
		}
	}
}

// Two columns, and two groups, speak of one page.
func TestP2OnePageOfTwoColumns(t *testing.T) {
	book := pageOf(dictionary, 2, valueBytes(api.Int, numbers(7, 8)))
	index := pageOf(indices, 2, append([]byte{1}, leastRuns(1, []int{0, 1})...))
	for _, places := range [][]place{{{4, 2}, {4, 2}}, {{4 + len(book) + len(index), 1}, {4 + len(book) + len(index), 1}}} {
		pages := slices.Concat(book, index, pageOf(plain, 2, valueBytes(api.Int, numbers(7, 8))))
		for groups := 1; groups <= 3; groups++ {
			data := framed(string(pages), footerBytes(columnsOf(2), slices.Repeat([]group{{2, places}}, groups)...))
			got, _, e := strata.Read(data, 1000)
			if e != api.OK {
				t.Fatalf("P7: error %d", e)
			}
			filled(got.Cells[0])
			if !slices.Equal(got.Cells[1], slices.Repeat(numbers(7, 8), groups)) {
				t.Errorf("P2: the columns share memory: %v", got.Cells)
			}
		}
	}
}

func TestP2NothingIsKept(t *testing.T) {
	data := []byte("\x05\x10abcde")
	out, _ := strata.Unpack(data, 9)
	again, _ := strata.Unpack(data, 9)
	clear(data)
	if string(out) != "abcde" {
		t.Errorf("P2: what came out has become %q", out)
	}
	clear(out[:cap(out)])
	if string(again) != "abcde" {
		t.Errorf("P2: what came out of another call has become %q", again)
	}
	data = []byte("\x03\x88\xc6\xfa")
	want := []int{0, 1, 2, 3, 4, 5, 6, 7}
	list, _, _ := strata.Runs(data, 3, 8)
	other, _, _ := strata.Runs(data, 3, 8)
	clear(data)
	clear(list[:cap(list)])
	if !slices.Equal(other, want) {
		t.Errorf("P2: what came out of another call has become %v", other)
	}
	data = example()
	shape, _ := strata.Look(data)
	another, _ := strata.Look(data)
	clear(data)
	if len(shape.Columns) != 1 || shape.Columns[0].Name != "a" {
		t.Errorf("P2: the columns that came out have become %v", shape.Columns)
	}
	clear(shape.Columns[:cap(shape.Columns)])
	clear(shape.Rows[:cap(shape.Rows)])
	if len(another.Columns) != 1 || another.Columns[0].Name != "a" || !slices.Equal(another.Rows, []int{2}) {
		t.Errorf("P2: what came out of another call has become %v", another)
	}
}

func TestP2WhatStandsBehindDoesNotCount(t *testing.T) {
	// An element, a varint and a run that would be whole with what stands behind.
	whole := []byte("\x05\x10abcde")
	wantNotUnpacked(t, whole[:6], 9, api.ErrPack)
	wantNotUnpacked(t, whole[:0], 9, api.ErrVarint)
	wantNoRuns(t, []byte("\x10\x01")[:1], 1, 8, api.ErrRuns)
	wantNoRuns(t, []byte("\x03\x88\xc6\xfa")[:3], 3, 8, api.ErrRuns)
	for n := range example() {
		wantNoLook(t, example()[:n], api.ErrFile)
		wantNoRead(t, example()[:n], 1000, api.ErrFile)
		wantNoOrder(t, example()[:n], 0, 1000, api.ErrFile)
	}
	for n := range 3 {
		cells := numbers(1, 2, 3)
		wantBack(t, tableOf(intColumn, cells[:n]...), 10)
	}
	if got := strata.Sum([]byte("123456789x")[:9]); got != 0xcbf43926 {
		t.Errorf("P2: Sum = %08x", got)
	}
}

func TestP2ArgumentsAlone(t *testing.T) {
	var all sync.WaitGroup
	for seed := range int64(8) {
		all.Add(1)
		go func() {
			defer all.Done()
			r := rand.New(rand.NewSource(seed))
			for range 200 {
				data, want := anyPacked(r)
				wantUnpacked(t, data, len(want), want)
				if strata.Sum(data) != sumInWords(data) {
					t.Errorf("P2: Sum(%x) is another one", data)
				}
				width := r.Intn(api.MaxWidth + 1)
				data, numbers := anyRuns(r, width)
				wantRuns(t, data, width, numbers, len(data))
				data, shape := anyFile(r)
				wantLook(t, data, shape)
				m := maker{Rand: r}
				data, table := m.file()
				wantRead(t, data, table, m.used)
				checkOrder(t, data, 0, m.used)
				checkWrite(t, table, 60)
				checkWrite(t, anyTable(r), 60)
			}
		}()
	}
	all.Wait()
}
