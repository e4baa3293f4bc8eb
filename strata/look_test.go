package strata_test

import (
	"bytes"
	"encoding/binary"
	"hash/crc32"
	"math/rand"
	"slices"
	"strconv"
	"strings"
	"testing"

	"strata/api"
	"strata/strata"
)

// place: where a column's first page begins, and how many pages it has.
type place struct{ first, pages int }

// group: how many rows it has, and the place of each column's pages.
type group struct {
	rows   int
	places []place
}

func columnBytes(c api.Column) []byte {
	kind := byte(c.Kind)
	if c.Optional {
		kind += 4
	}
	return append(append(varint(len(c.Name)), c.Name...), kind)
}

func groupBytes(g group) []byte {
	out := varint(g.rows)
	for _, p := range g.places {
		out = append(append(out, varint(p.first)...), varint(p.pages)...)
	}
	return out
}

func footerBytes(columns []api.Column, groups ...group) []byte {
	out := varint(len(columns))
	for _, c := range columns {
		out = append(out, columnBytes(c)...)
	}
	out = append(out, varint(len(groups))...)
	for _, g := range groups {
		out = append(out, groupBytes(g)...)
	}
	return out
}

// framed lays a footer into a file, behind pages, with its sum.
func framed(pages string, footer []byte) []byte {
	out := append([]byte("STRA"+pages), footer...)
	out = append(out, lowest(len(footer), 4)...)
	out = append(out, lowest(int(crc32.ChecksumIEEE(footer)), 4)...)
	return append(out, "STRA"...)
}

func wantLook(t *testing.T, data []byte, want api.Shape) {
	t.Helper()
	got, e := strata.Look(data)
	if !slices.Equal(got.Columns, want.Columns) || !slices.Equal(got.Rows, want.Rows) || e != api.OK {
		t.Errorf("P6: Look(%.80x) = %v, %d, want %v", data, got, e, want)
	}
}

func wantNoLook(t *testing.T, data []byte, want api.Errno) {
	t.Helper()
	got, e := strata.Look(data)
	if len(got.Columns) != 0 || len(got.Rows) != 0 || e != want {
		t.Errorf("P6: Look(%.80x) = %v, %d, want error %d", data, got, e, want)
	}
}

// example is the file of the document's third example.
func example() []byte {
	page := "\x01\x00\x00\x00\x00\x00\x00\x00\x02\x00\x00\x00\x00\x00\x00\x00"
	sum := string(lowest(int(crc32.ChecksumIEEE([]byte(page))), 4))
	footer := "\x01\x01a\x01\x01\x02\x04\x01"
	footerSum := string(lowest(int(crc32.ChecksumIEEE([]byte(footer))), 4))
	return []byte("STRA" + "\x00\x00\x02\x10\x10" + sum + page + footer + "\x08\x00\x00\x00" + footerSum + "STRA")
}

func TestP6Example(t *testing.T) {
	want := api.Shape{Columns: []api.Column{{Name: "a", Kind: api.Int}}, Rows: []int{2}}
	wantLook(t, example(), want)
	// The place lies within the pages: it may be any byte of them, and no other.
	for first := range 60 {
		footer := footerBytes(want.Columns, group{2, []place{{first, 1}}})
		data := framed(string(example()[4:29]), footer)
		if first >= 4 && first <= 29 {
			wantLook(t, data, want)
		} else {
			wantNoLook(t, data, api.ErrFooter)
		}
	}
}

// columnsOf makes columns that differ by their names alone.
func columnsOf(count int) []api.Column {
	columns := make([]api.Column, count)
	for i := range columns {
		columns[i] = api.Column{Name: strconv.Itoa(i), Kind: api.Int}
	}
	return columns
}

// groupsOf makes equal groups of so many columns.
func groupsOf(count, rows, columns int) []group {
	return slices.Repeat([]group{{rows, slices.Repeat([]place{{4, 1}}, columns)}}, count)
}

func TestP6HowManyColumns(t *testing.T) {
	for count := range 25 {
		columns := columnsOf(count)
		data := framed("", footerBytes(columns, groupsOf(2, 3, count)...))
		if count >= 1 && count <= 20 {
			wantLook(t, data, api.Shape{Columns: columns, Rows: []int{3, 3}})
		} else {
			wantNoLook(t, data, api.ErrFooter)
		}
	}
	for _, count := range []int{127, 128, 257, 300, 1 << 16, 1<<16 + 1, 1 << 31, 1<<32 - 1} {
		wantNoLook(t, framed("", append(varint(count), footerBytes(columnsOf(1))[1:]...)), api.ErrFooter)
	}
}

func TestP6Names(t *testing.T) {
	for size := range 24 {
		columns := []api.Column{{Name: strings.Repeat("\x00", size)}, {Name: strings.Repeat("\xff", size), Optional: true}}
		data := framed("", footerBytes(columns))
		if size >= 1 && size <= 20 {
			wantLook(t, data, api.Shape{Columns: columns})
		} else {
			wantNoLook(t, data, api.ErrFooter)
		}
	}
	for b := range 256 {
		columns := []api.Column{{Name: string([]byte{byte(b)})}, {Name: string([]byte{byte(b), byte(b)})}}
		wantLook(t, framed("", footerBytes(columns)), api.Shape{Columns: columns})
	}
	// None at all, and names that are said to be longer than what is left.
	wantNoLook(t, framed("", []byte("\x01\x00\x01\x00")), api.ErrFooter)
	for _, size := range []int{3, 4, 20, 128, 1 << 14, 1<<31 - 1, 1 << 31, 1<<32 - 1} {
		wantNoLook(t, framed("", slices.Concat(varint(1), varint(size), []byte("\x01\x00"))), api.ErrFooter)
		wantNoLook(t, framed("", slices.Concat(varint(1), varint(size), []byte("a\x01\x00"))), api.ErrFooter)
	}
}

func TestP6NoTwoNamesTheSame(t *testing.T) {
	alike := []api.Column{{Name: "a"}, {Name: "A"}, {Name: "a\x00"}, {Name: "\x00a"}, {Name: "aa"}, {Name: " a"}}
	wantLook(t, framed("", footerBytes(alike)), api.Shape{Columns: alike})
	for count := 2; count <= 20; count++ {
		for i := range count {
			for j := range i {
				columns := columnsOf(count)
				// The names alone count, not what else is told of a column.
				columns[i] = api.Column{Name: columns[j].Name, Kind: api.Kind((i + j) % 3), Optional: i%2 == 0}
				wantNoLook(t, framed("", footerBytes(columns, groupsOf(1, 1, count)...)), api.ErrFooter)
			}
		}
	}
}

func TestP6Kinds(t *testing.T) {
	good := map[byte]api.Column{
		0: {Name: "a", Kind: api.Bool}, 1: {Name: "a", Kind: api.Int}, 2: {Name: "a", Kind: api.Text},
		4: {Name: "a", Kind: api.Bool, Optional: true}, 5: {Name: "a", Kind: api.Int, Optional: true}, 6: {Name: "a", Kind: api.Text, Optional: true},
	}
	for b := range 256 {
		data := framed("", []byte{1, 1, 'a', byte(b), 0})
		if c, ok := good[byte(b)]; ok {
			wantLook(t, data, api.Shape{Columns: []api.Column{c}})
		} else {
			wantNoLook(t, data, api.ErrFooter)
		}
	}
}

func TestP6HowManyGroups(t *testing.T) {
	for count := range 60 {
		data := framed("", footerBytes(columnsOf(2), groupsOf(count, 7, 2)...))
		if count <= 50 {
			wantLook(t, data, api.Shape{Columns: columnsOf(2), Rows: slices.Repeat([]int{7}, count)})
		} else {
			wantNoLook(t, data, api.ErrFooter)
		}
	}
	// The number alone, with one group too few or too many behind it.
	for count := range 50 {
		footer := footerBytes(columnsOf(1), groupsOf(count, 7, 1)...)
		footer[4] = byte(count + 1)
		wantNoLook(t, framed("", footer), api.ErrFooter)
		footer = footerBytes(columnsOf(1), groupsOf(count+1, 7, 1)...)
		footer[4] = byte(count)
		wantNoLook(t, framed("", footer), api.ErrFooter)
	}
}

// spots are a group's place among others, and a column's among others.
var spots = []struct{ groups, columns, group, column int }{
	{1, 1, 0, 0}, {3, 1, 0, 0}, {3, 1, 2, 0}, {2, 3, 0, 0}, {2, 3, 1, 2}, {2, 3, 0, 2}, {50, 20, 49, 19}, {50, 20, 25, 0},
}

func TestP6Rows(t *testing.T) {
	for _, s := range spots {
		for _, rows := range []int{0, 1, 2, 127, 128, 999, 1000, 1001, 1 << 14, 1 << 31, 1<<32 - 1} {
			groups := groupsOf(s.groups, 1, s.columns)
			groups[s.group].rows = rows
			data := framed("", footerBytes(columnsOf(s.columns), groups...))
			if rows == 0 || rows > 1000 {
				wantNoLook(t, data, api.ErrFooter)
				continue
			}
			want := slices.Repeat([]int{1}, s.groups)
			want[s.group] = rows
			wantLook(t, data, api.Shape{Columns: columnsOf(s.columns), Rows: want})
		}
	}
}

// fileWith is a file of as many groups and columns as the spot says, with p at
// the spot.
func fileWith(pages string, groups, columns, atGroup, atColumn int, p place) []byte {
	list := make([]group, groups)
	for i := range list {
		list[i] = group{1, slices.Repeat([]place{{4, 1}}, columns)}
	}
	list[atGroup].places[atColumn] = p
	return framed(pages, footerBytes(columnsOf(columns), list...))
}

func TestP6Places(t *testing.T) {
	for _, s := range spots {
		want := api.Shape{Columns: columnsOf(s.columns), Rows: slices.Repeat([]int{1}, s.groups)}
		for _, size := range []int{0, 1, 100, 300} {
			pages := strings.Repeat("p", size)
			for _, first := range []int{4, 4 + size/2, 4 + size} {
				wantLook(t, fileWith(pages, s.groups, s.columns, s.group, s.column, place{first, 1}), want)
			}
			for _, first := range []int{0, 1, 3, 5 + size, 6 + size, 1 << 16, 1<<31 + 4, 1<<32 - 1} {
				wantNoLook(t, fileWith(pages, s.groups, s.columns, s.group, s.column, place{first, 1}), api.ErrFooter)
			}
		}
		for _, count := range []int{1, 2, 49, 50} {
			wantLook(t, fileWith("", s.groups, s.columns, s.group, s.column, place{4, count}), want)
		}
		for _, count := range []int{0, 51, 52, 128, 256, 257, 1 << 31, 1<<32 - 1} {
			wantNoLook(t, fileWith("", s.groups, s.columns, s.group, s.column, place{4, count}), api.ErrFooter)
		}
	}
}

func TestP6NoFile(t *testing.T) {
	good := example()
	for n := range good {
		wantNoLook(t, good[:n], api.ErrFile)
		if n > 0 {
			wantNoLook(t, good[n:], api.ErrFile)
		}
	}
	wantNoLook(t, nil, api.ErrFile)
	for _, data := range []string{
		"STRA", "STRASTRA", "STRASTRASTRA", "STRA\x00\x00\x00\x00\x00\x00\x00STRA", "STRA\x00\x00\x00STRA", "STRA" + strings.Repeat("\x00", 12),
		strings.Repeat("\x00", 12) + "STRA", "STRASTRASTRASTRA", strings.Repeat("STRA", 10), "STRA\x01\x00\x00\x00\x00\x00\x00\x00STRA",
	} {
		wantNoLook(t, []byte(data), api.ErrFile)
	}
	for _, at := range []int{0, 1, 2, 3, len(good) - 4, len(good) - 3, len(good) - 2, len(good) - 1} {
		for bit := range 8 {
			changed := bytes.Clone(good)
			changed[at] ^= 1 << bit
			wantNoLook(t, changed, api.ErrFile)
		}
	}
	for _, around := range []byte("xS\x00") {
		wantNoLook(t, append(bytes.Clone(good), around), api.ErrFile)
		wantNoLook(t, append([]byte{around}, good...), api.ErrFile)
	}
}

func TestP6FootersLength(t *testing.T) {
	for size := range 40 {
		good := framed(strings.Repeat("p", size), footerBytes(columnsOf(1)))
		least := len(good) - 16
		for length := range least + 20 {
			changed := bytes.Clone(good)
			copy(changed[len(good)-12:], lowest(length, 4))
			switch {
			case length > least:
				wantNoLook(t, changed, api.ErrFile)
			case length != 5:
				wantNoLook(t, changed, api.ErrSum)
			default:
				wantLook(t, changed, api.Shape{Columns: columnsOf(1)})
			}
		}
		for _, length := range []int{5 + 1<<8, 5 + 1<<16, 5 + 1<<24, 1 << 31, 5 + 1<<31, 1<<32 - 1, 1<<32 - 5} {
			changed := bytes.Clone(good)
			copy(changed[len(good)-12:], lowest(length, 4))
			wantNoLook(t, changed, api.ErrFile)
		}
	}
	// The least file there is has no footer, and nothing is the sum of nothing.
	wantNoLook(t, []byte("STRA\x00\x00\x00\x00\x00\x00\x00\x00STRA"), api.ErrFooter)
	wantNoLook(t, []byte("STRA\x00\x00\x00\x00\x01\x00\x00\x00STRA"), api.ErrSum)
}

func TestP6Sum(t *testing.T) {
	good := example()
	want := api.Shape{Columns: []api.Column{{Name: "a", Kind: api.Int}}, Rows: []int{2}}
	end := len(good) - 12
	for at := 4; at < len(good)-4; at++ {
		for bit := range 8 {
			changed := bytes.Clone(good)
			changed[at] ^= 1 << bit
			switch {
			case at < end-8: // a page, of which the footer's sum says nothing
				wantLook(t, changed, want)
			case at < end || at >= end+4:
				wantNoLook(t, changed, api.ErrSum)
			}
		}
	}
}

func TestP6TheErrorNamedFirst(t *testing.T) {
	bad := framed("", []byte("\x00\x00"))
	wantNoLook(t, bad, api.ErrFooter)
	end := len(bad) - 12
	wrongSum := bytes.Clone(bad)
	wrongSum[end+4] ^= 1
	wantNoLook(t, wrongSum, api.ErrSum)
	for _, data := range [][]byte{bad, wrongSum} {
		for _, at := range []int{0, 3, len(bad) - 4, len(bad) - 1} {
			changed := bytes.Clone(data)
			changed[at] ^= 0x20
			wantNoLook(t, changed, api.ErrFile)
		}
		changed := bytes.Clone(data)
		changed[end]++
		wantNoLook(t, changed, api.ErrFile)
	}
}

func TestP6FooterNotWhole(t *testing.T) {
	footer := footerBytes([]api.Column{{Name: "abc", Kind: api.Text}, {Name: "b", Optional: true}}, group{1000, []place{{4, 1}, {200, 50}}}, group{1, []place{{204, 50}, {4, 2}}})
	pages := strings.Repeat("p", 200)
	wantLook(t, framed(pages, footer), api.Shape{Columns: []api.Column{{Name: "abc", Kind: api.Text}, {Name: "b", Optional: true}}, Rows: []int{1000, 1}})
	for n := range footer {
		wantNoLook(t, framed(pages, footer[:n]), api.ErrFooter)
		// Its beginning ahead of where it is said to begin.
		checkLook(t, framed(pages+string(footer[:n]), footer[n:]))
	}
	for b := range 256 {
		wantNoLook(t, framed(pages, append(bytes.Clone(footer), byte(b))), api.ErrFooter)
	}
}

func TestP6VarintsThatAreNone(t *testing.T) {
	// Each of the footer's numbers, with a byte more than it needs, or too many.
	parts := []string{"\x01", "\x01", "a\x01", "\x01", "\x05", "\x04", "\x01"}
	for i, part := range parts {
		if len(part) > 1 {
			continue
		}
		n := part[0] | 0x80
		for _, other := range []string{string([]byte{n, 0}), string([]byte{n, 0x80, 0}), string([]byte{n, 0x80, 0x80, 0x80, 0}), string([]byte{n, 0x80, 0x80, 0x80, 0x10}), string([]byte{n, 0x80, 0x80, 0x80, 0x80, 0x01}), string([]byte{n})} {
			changed := slices.Clone(parts)
			changed[i] = other
			wantNoLook(t, framed("", []byte(strings.Join(changed, ""))), api.ErrFooter)
		}
	}
	wantLook(t, framed("", []byte(strings.Join(parts, ""))), api.Shape{Columns: []api.Column{{Name: "a", Kind: api.Int}}, Rows: []int{5}})
}

// anyFile makes a file by chance, and its shape.
func anyFile(r *rand.Rand) ([]byte, api.Shape) {
	pages := make([]byte, r.Intn(300))
	r.Read(pages)
	var shape api.Shape
	for i := range 1 + r.Intn(20) {
		name := make([]byte, 1+r.Intn(20))
		r.Read(name)
		name[0] = byte(i)
		shape.Columns = append(shape.Columns, api.Column{Name: string(name), Kind: api.Kind(r.Intn(3)), Optional: r.Intn(2) == 0})
	}
	var groups []group
	for range r.Intn(51) {
		g := group{rows: 1 + r.Intn(1000)}
		for range shape.Columns {
			g.places = append(g.places, place{4 + r.Intn(len(pages)+1), 1 + r.Intn(50)})
		}
		groups = append(groups, g)
		shape.Rows = append(shape.Rows, g.rows)
	}
	return framed(string(pages), footerBytes(shape.Columns, groups...)), shape
}

func TestP6AnyFile(t *testing.T) {
	r := rand.New(rand.NewSource(6))
	for range 1000 {
		data, want := anyFile(r)
		wantLook(t, data, want)
	}
}

// sumsAgain writes the footer's sum anew, if there is a footer.
func sumsAgain(data []byte) {
	end := len(data) - 12
	if end < 4 {
		return
	}
	length := int(binary.LittleEndian.Uint32(data[end:]))
	if length <= end-4 {
		binary.LittleEndian.PutUint32(data[end+4:], crc32.ChecksumIEEE(data[end-length:end]))
	}
}

// lookInWords goes through a file as the document's words say, and tells the
// error alone.
func lookInWords(data []byte) (e api.Errno) {
	n := len(data)
	if n < 16 || string(data[:4])+string(data[n-4:]) != "STRASTRA" {
		return api.ErrFile
	}
	length := int(binary.LittleEndian.Uint32(data[n-12:]))
	if n < 16+length {
		return api.ErrFile
	}
	start := n - 12 - length
	rest := data[start : n-12]
	if crc32.ChecksumIEEE(rest) != binary.LittleEndian.Uint32(data[n-8:]) {
		return api.ErrSum
	}
	defer func() {
		if recover() != nil {
			e = api.ErrFooter
		}
	}()
	must := func(holds bool) {
		if !holds {
			panic("not as it must be")
		}
	}
	number := func(least, most int) int {
		u, size := binary.Uvarint(rest)
		must(size > 0 && size <= 5 && u < 1<<32 && (size == 1 || rest[size-1] != 0))
		must(int(u) >= least && int(u) <= most)
		rest = rest[size:]
		return int(u)
	}
	columns := number(1, 20)
	names := map[string]int{}
	for range columns {
		size := number(1, 20)
		must(size < len(rest))
		names[string(rest[:size])]++
		must(strings.IndexByte("\x00\x01\x02\x04\x05\x06", rest[size]) >= 0)
		rest = rest[size+1:]
	}
	must(len(names) == columns)
	for range number(0, 50) {
		number(1, 1000)
		for range columns {
			number(4, start)
			number(1, 50)
		}
	}
	must(len(rest) == 0)
	return api.OK
}

func TestP6ChangedFooters(t *testing.T) {
	r := rand.New(rand.NewSource(66))
	var met [api.ErrOrder + 1]int
	for range 20000 {
		data, _ := anyFile(r)
		begins := len(data) - 12 - int(binary.LittleEndian.Uint32(data[len(data)-12:]))
		// Near the beginning as often as anywhere: there the counts stand.
		at := begins + r.Intn(min(len(data)-begins, 10+r.Intn(1000)))
		data[at] = byte(r.Intn(256)) >> r.Intn(8)
		sumsAgain(data)
		checkLook(t, data)
		_, e := strata.Look(data)
		met[e]++
	}
	if met[api.OK] < 100 || met[api.ErrFooter] < 100 || met[api.ErrFile] < 10 {
		t.Errorf("P6: the changed footers are too much alike: %v", met)
	}
}
