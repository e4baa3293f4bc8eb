package strata_test

import (
	"encoding/binary"
	"hash/crc32"
	"math/rand"
	"slices"

	"strata/api"
	"strata/strata"
)

const (
	plain      = 0
	dictionary = 1
	indices    = 2
)

// headed is a page with a head that says just that; its sum is the right one.
func headed(sort, packed byte, cells, stored, unpacked int, body []byte) []byte {
	sum := lowest(int(crc32.ChecksumIEEE(body)), 4)
	return slices.Concat([]byte{sort, packed}, varint(cells), varint(stored), varint(unpacked), sum, body)
}

// pageSumsAgain writes the sums of pages anew, as far as they are pages.
func pageSumsAgain(pages []byte) {
	for len(pages) > 2 {
		at, stored := 2, 0
		for i := range 3 {
			u, size := binary.Uvarint(pages[at:])
			if size <= 0 || u >= 1<<32 {
				return
			}
			at += size
			if i == 1 {
				stored = int(u)
			}
		}
		if len(pages) < at+4+stored {
			return
		}
		binary.LittleEndian.PutUint32(pages[at:], crc32.ChecksumIEEE(pages[at+4:at+4+stored]))
		pages = pages[at+4+stored:]
	}
}

// pageOf is a page that is not packed.
func pageOf(sort byte, cells int, body []byte) []byte {
	return headed(sort, 0, cells, len(body), len(body), body)
}

// packedPage is a page that is packed, as one literal.
func packedPage(sort byte, cells int, body []byte) []byte {
	stored := varint(len(body))
	if len(body) > 0 {
		stored = packed(len(body), literal(body, 4))
	}
	return headed(sort, 1, cells, len(stored), len(body), stored)
}

// pagesOf: the pages of each column in a group of so many rows.
type pagesOf struct {
	rows    int
	columns [][][]byte
}

// laid is a file of groups, whose pages stand in order behind one another.
func laid(columns []api.Column, groups ...pagesOf) []byte {
	var pages []byte
	var list []group
	for _, g := range groups {
		here := group{rows: g.rows}
		for _, c := range g.columns {
			here.places = append(here.places, place{4 + len(pages), len(c)})
			pages = append(pages, slices.Concat(c...)...)
		}
		list = append(list, here)
	}
	return framed(string(pages), footerBytes(columns, list...))
}

// only is a file of one column in one group.
func only(c api.Column, rows int, pages ...[]byte) []byte {
	return laid([]api.Column{c}, pagesOf{rows, [][][]byte{pages}})
}

// valueBytes writes cells that are not null as in a plain page.
func valueBytes(kind api.Kind, cells []api.Cell) []byte {
	var out []byte
	for i, c := range cells {
		switch kind {
		case api.Bool:
			if i%8 == 0 {
				out = append(out, 0)
			}
			out[i/8] |= byte(c.N) << (i % 8)
		case api.Int:
			out = binary.LittleEndian.AppendUint64(out, uint64(c.N))
		case api.Text:
			out = append(append(out, varint(len(c.S))...), c.S...)
		}
	}
	return out
}

// notNull are the cells that are not null, and the levels of all.
func notNull(cells []api.Cell) (values []api.Cell, levels []int) {
	for _, c := range cells {
		if c.Null {
			levels = append(levels, 0)
			continue
		}
		values = append(values, c)
		levels = append(levels, 1)
	}
	return values, levels
}

// leastRuns writes each number as a run of its own.
func leastRuns(width int, numbers []int) []byte {
	var out []byte
	for _, n := range numbers {
		out = append(out, equalRun(n, width, 1)...)
	}
	return out
}

// levelBytes are the levels of an optional column's cells, behind their length.
func levelBytes(levels []int) []byte {
	runs := leastRuns(1, levels)
	return append(varint(len(runs)), runs...)
}

// plainBody is the bytes of a plain page of the column.
func plainBody(c api.Column, cells []api.Cell) []byte {
	values, levels := notNull(cells)
	if !c.Optional {
		return valueBytes(c.Kind, values)
	}
	return append(levelBytes(levels), valueBytes(c.Kind, values)...)
}

// indexBody is the bytes of a page of indices of the column.
func indexBody(c api.Column, width int, cells, words []api.Cell) []byte {
	values, levels := notNull(cells)
	var numbers []int
	for _, v := range values {
		numbers = append(numbers, slices.Index(words, v))
	}
	body := append([]byte{byte(width)}, leastRuns(width, numbers)...)
	if !c.Optional {
		return body
	}
	return append(levelBytes(levels), body...)
}

// costOf is what a page uses of the budget.
func costOf(unpacked int, cells []api.Cell) int {
	for _, c := range cells {
		unpacked += 8 + len(c.S)
	}
	return unpacked
}

// anyRunsOf writes numbers in runs, by chance of one sort or the other.
func anyRunsOf(r *rand.Rand, width int, numbers []int) []byte {
	var out []byte
	for len(numbers) > 0 {
		same := 1
		for same < len(numbers) && numbers[same] == numbers[0] {
			same++
		}
		if r.Intn(2) == 0 {
			same = 1 + r.Intn(same)
			out = append(out, equalRun(numbers[0], width, same)...)
			numbers = numbers[same:]
			continue
		}
		most := min(len(numbers), 8*(1+r.Intn(1+len(numbers)/8)))
		eights := append(slices.Clone(numbers[:most]), make([]int, (8-most%8)%8)...)
		out = append(out, eightsRun(width, eights)...)
		numbers = numbers[most:]
	}
	return out
}

// anyPacking packs data, by chance as literals and copies.
func anyPacking(r *rand.Rand, data []byte) []byte {
	out := varint(len(data))
	for done := 0; done < len(data); {
		if done > 0 && r.Intn(3) > 0 {
			back := 1 + r.Intn(min(done, 1<<16-1))
			same := 0
			for done+same < len(data) && same < 64 && data[done+same] == data[done+same-back] {
				same++
			}
			if same > 0 {
				out = append(out, copyOf(2+r.Intn(2), same, back)...)
				done += same
				continue
			}
		}
		size := 1 + r.Intn(min(len(data)-done, 1+r.Intn(100)))
		wide := r.Intn(5)
		if size > 60 {
			wide = 1 + r.Intn(4)
		}
		out = append(out, literal(data[done:done+size], wide)...)
		done += size
	}
	return out
}

// maker makes files by chance. What it spoils is right but for a byte or a
// number; with spoil 0 it spoils nothing. With inOrder, the cells of each column
// are in order in each group.
type maker struct {
	*rand.Rand
	spoil   int
	inOrder bool
	used    int
}

// hits tells, now and then, that something is to be spoilt.
func (m *maker) hits() bool {
	return m.spoil > 0 && m.Intn(m.spoil) == 0
}

// number is n or, now and then, another one.
func (m *maker) number(n int) int {
	if !m.hits() {
		return n
	}
	others := []int{n + 1, max(n-1, 0), 0, n + 128, m.Intn(2000), 1 << 20, 1<<20 + 1, 1<<32 - 1}
	return others[m.Intn(len(others))]
}

// bytes is data or, now and then, with a byte changed, missing or added.
func (m *maker) bytes(data []byte) []byte {
	if !m.hits() {
		return data
	}
	out := slices.Clone(data)
	switch at := m.Intn(len(out) + 1); {
	case m.Intn(4) == 0:
		return slices.Insert(out, at, byte(m.Intn(256)>>m.Intn(8)))
	case at == len(out):
		return out[:max(at-1, 0)]
	case m.Intn(4) == 0:
		return slices.Delete(out, at, at+1)
	default:
		out[at] = byte(m.Intn(256) >> m.Intn(8))
		return out
	}
}

// page is a page of some cells; body is what it is unpacked.
func (m *maker) page(sort byte, cells []api.Cell, body []byte) []byte {
	body = m.bytes(body)
	m.used += costOf(len(body), cells)
	isPacked, stored := byte(0), body
	if m.Intn(2) == 0 {
		isPacked, stored = 1, m.bytes(anyPacking(m.Rand, body))
	}
	out := headed(byte(m.number(int(sort))), byte(m.number(int(isPacked))), m.number(len(cells)), m.number(len(stored)), m.number(len(body)), stored)
	return m.bytes(out)
}

// cell is a cell of the column.
func (m *maker) cell(c api.Column) api.Cell {
	switch {
	case c.Optional && m.Intn(3) == 0:
		return api.Cell{Null: true}
	case c.Kind == api.Bool:
		return api.Cell{N: m.Intn(2)}
	case c.Kind == api.Int:
		return api.Cell{N: int(m.Uint64()) >> m.Intn(64)}
	}
	text := make([]byte, m.Intn(1+m.Intn(12)))
	m.Read(text)
	return api.Cell{S: string(text)}
}

// levels are written ahead of an optional column's values.
func (m *maker) levels(c api.Column, levels []int) []byte {
	if !c.Optional {
		return nil
	}
	runs := m.bytes(anyRunsOf(m.Rand, 1, levels))
	return append(varint(m.number(len(runs))), runs...)
}

// cellsPage is a page of the cells: of indices, if there is a dictionary and
// all of the cells are in it.
func (m *maker) cellsPage(c api.Column, cells, words []api.Cell, has bool) []byte {
	values, levels := notNull(cells)
	start := m.levels(c, levels)
	var numbers []int
	for _, v := range values {
		at := slices.Index(words, v)
		if at < 0 || m.Intn(10) == 0 {
			has = false
			break
		}
		numbers = append(numbers, m.number(at)%65536)
	}
	if !has || m.Intn(10) == 0 {
		return m.page(plain, cells, append(start, valueBytes(c.Kind, values)...))
	}
	least := 0
	for _, n := range append(numbers, 0) {
		for n>>least != 0 {
			least++
		}
	}
	width := least + m.Intn(17-least)
	body := slices.Concat(start, []byte{byte(m.number(width))}, anyRunsOf(m.Rand, width, numbers))
	return m.page(indices, cells, body)
}

// part is the pages of a column in a group, and its cells.
func (m *maker) part(c api.Column, rows int) ([][]byte, []api.Cell) {
	var pages [][]byte
	var words []api.Cell
	has := c.Kind != api.Bool && m.Intn(2) == 0
	if has {
		for range m.Intn(20) {
			words = append(words, m.cell(api.Column{Kind: c.Kind}))
		}
		pages = append(pages, m.page(dictionary, words, valueBytes(c.Kind, words)))
	}
	var cells []api.Cell
	for range m.number(rows) % 1500 {
		next := m.cell(c)
		if !next.Null && len(words) > 0 && m.Intn(20) > 0 {
			next = words[m.Intn(len(words))]
		}
		cells = append(cells, next)
	}
	if m.inOrder {
		slices.SortFunc(cells, func(a, b api.Cell) int { return compareInWords(c.Kind, a, b) })
	}
	for done := 0; done < len(cells) || m.Intn(4) == 0 || len(pages) == 0; {
		size := m.Intn(len(cells) - done + 1)
		if len(pages) >= 40 {
			size = len(cells) - done
		}
		pages = append(pages, m.cellsPage(c, cells[done:done+size], words, has))
		done += size
		if len(pages) == 50 {
			break
		}
	}
	return pages, cells
}

// file is a file, and its table.
func (m *maker) file() ([]byte, api.Table) {
	m.used = 0
	t := api.Table{Columns: columnsOf(1 + m.Intn(4))}
	t.Cells = make([][]api.Cell, len(t.Columns))
	for i := range t.Columns {
		t.Columns[i].Kind = api.Kind(m.Intn(3))
		t.Columns[i].Optional = m.Intn(2) == 0
	}
	var groups []pagesOf
	for range m.Intn(4) {
		g := pagesOf{rows: 1 + m.Intn(1+m.Intn(60))}
		for i, c := range t.Columns {
			pages, cells := m.part(c, g.rows)
			g.columns = append(g.columns, pages)
			t.Cells[i] = append(t.Cells[i], cells...)
		}
		groups = append(groups, g)
	}
	return laid(t.Columns, groups...), t
}

// readInWords goes through a file as the document's words say.
func readInWords(data []byte, budget int) (t api.Table, used int, e api.Errno) {
	if budget < 0 || budget > 1<<30 {
		return t, 0, api.ErrArg
	}
	if e := lookInWords(data); e != api.OK {
		return t, 0, e
	}
	defer func() {
		if found := recover(); found != nil {
			t, used, e = api.Table{}, 0, found.(api.Errno)
		}
	}()
	w := walker{data: data, at: len(data) - 12 - int(binary.LittleEndian.Uint32(data[len(data)-12:])), budget: budget}
	w.footer = w.at
	for range w.varint(api.ErrFooter) {
		name := w.take(w.varint(api.ErrFooter), api.ErrFooter)
		kind := w.take(1, api.ErrFooter)[0]
		t.Columns = append(t.Columns, api.Column{Name: string(name), Kind: api.Kind(kind % 4), Optional: kind >= 4})
	}
	t.Cells = make([][]api.Cell, len(t.Columns))
	for range w.varint(api.ErrFooter) {
		rows := w.varint(api.ErrFooter)
		for i, c := range t.Columns {
			first, pages := w.varint(api.ErrFooter), w.varint(api.ErrFooter)
			inside := walker{data: data[:w.footer], at: first, budget: budget, used: w.used}
			t.Cells[i] = append(t.Cells[i], inside.part(c, rows, pages)...)
			w.used = inside.used
		}
	}
	return t, w.used, api.OK
}

// walker walks through data, and panics with an error where it must not go on.
type walker struct {
	data                     []byte
	at, footer, budget, used int
}

func must(holds bool, e api.Errno) {
	if !holds {
		panic(e)
	}
}

func (w *walker) varint(e api.Errno) int {
	u, size := binary.Uvarint(w.data[w.at:])
	must(size > 0 && size <= 5 && u < 1<<32 && (size == 1 || w.data[w.at+size-1] != 0), e)
	w.at += size
	return int(u)
}

func (w *walker) take(n int, e api.Errno) []byte {
	must(len(w.data)-w.at >= n, e)
	w.at += n
	return w.data[w.at-n : w.at]
}

func (w *walker) spend(n int) {
	w.used += n
	must(w.used <= w.budget, api.ErrBudget)
}

// part reads a column in a group.
func (w *walker) part(c api.Column, rows, pages int) []api.Cell {
	var words, cells []api.Cell
	has := false
	for n := range pages {
		head := w.take(2, api.ErrPage)
		sort, isPacked := head[0], head[1]
		must(sort <= 2 && isPacked <= 1, api.ErrPage)
		must(sort != dictionary || n == 0 && c.Kind != api.Bool, api.ErrPage)
		must(sort != indices || has, api.ErrPage)
		count, stored, unpacked := w.varint(api.ErrPage), w.varint(api.ErrPage), w.varint(api.ErrPage)
		sum := binary.LittleEndian.Uint32(w.take(4, api.ErrPage))
		body := w.take(stored, api.ErrPage)
		must(sort == dictionary && count <= 65536 || sort != dictionary && count+len(cells) <= rows, api.ErrPage)
		must(isPacked == 0 && stored == unpacked || isPacked == 1 && unpacked <= 1048576, api.ErrPage)
		w.spend(unpacked)
		must(crc32.ChecksumIEEE(body) == sum, api.ErrSum)
		if isPacked == 1 {
			out, e := strata.Unpack(body, 1<<20)
			must(e == api.OK && len(out) == unpacked, api.ErrPack)
			body = out
		}
		here := cellsInWords(body, c, sort, count, words)
		w.spend(costOf(0, here))
		if sort == dictionary {
			words, has = here, true
		} else {
			cells = append(cells, here...)
		}
	}
	must(len(cells) == rows, api.ErrRows)
	return cells
}

// cellsInWords reads the cells of a page's bytes.
func cellsInWords(body []byte, c api.Column, sort byte, count int, words []api.Cell) []api.Cell {
	w := walker{data: body}
	levels := slices.Repeat([]int{1}, count)
	if c.Optional && sort != dictionary {
		piece := w.take(w.varint(api.ErrLevel), api.ErrLevel)
		numbers, size, e := strata.Runs(piece, 1, count)
		must(e == api.OK && size == len(piece), api.ErrLevel)
		levels = numbers
	}
	var values []api.Cell
	are := count
	for _, level := range levels {
		are -= 1 - level
	}
	switch {
	case sort == indices:
		width := w.take(1, api.ErrValue)[0]
		must(width <= 16, api.ErrValue)
		numbers, size, e := strata.Runs(body[w.at:], int(width), are)
		must(e == api.OK, api.ErrValue)
		w.at += size
		for _, n := range numbers {
			must(n < len(words), api.ErrValue)
			values = append(values, words[n])
		}
	case c.Kind == api.Bool:
		for _, b := range w.take((are+7)/8, api.ErrValue) {
			for i := range 8 {
				values = append(values, api.Cell{N: int(b) >> i % 2})
			}
		}
		for _, v := range values[are:] {
			must(v.N == 0, api.ErrValue)
		}
	case c.Kind == api.Int:
		for range are {
			values = append(values, api.Cell{N: int(binary.LittleEndian.Uint64(w.take(8, api.ErrValue)))})
		}
	default:
		for range are {
			values = append(values, api.Cell{S: string(w.take(w.varint(api.ErrValue), api.ErrValue))})
		}
	}
	must(w.at == len(body), api.ErrValue)
	var out []api.Cell
	for _, level := range levels {
		if level == 0 {
			out = append(out, api.Cell{Null: true})
		} else {
			out, values = append(out, values[0]), values[1:]
		}
	}
	return out
}
