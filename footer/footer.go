// Package footer reads and writes a file's footer, which tells its columns and
// its groups.
package footer

import (
	"bytes"

	"strata/api"
	"strata/input"
	"strata/sum"
)

// mark stands at the beginning and at the end of a file.
const mark = "STRA"

// tail is what stands behind a footer: its length, its sum and the mark.
const tail = 4 + 4 + len(mark)

// optional is the bit beside a column's kind.
const optional = 4

// Footer: the columns and groups that it tells, and where it begins in the
// file, which is where every page must have ended.
type Footer struct {
	Columns []api.Column
	Groups  []Group
	Begins  int
}

// Group: how many rows it has, and where each column's pages are.
type Group struct {
	Rows   int
	Places []Place
}

// Place: where the first page begins in the file, and how many pages there are.
type Place struct {
	First int
	Pages int
}

// Look tells the shape of the file that data is.
func Look(data []byte) (api.Shape, api.Errno) {
	f, e := Read(data)
	if e != api.OK {
		return api.Shape{}, e
	}
	shape := api.Shape{Columns: f.Columns}
	for _, g := range f.Groups {
		shape.Rows = append(shape.Rows, g.Rows)
	}
	return shape, api.OK
}

// Read tells the footer of the file that data is.
func Read(data []byte) (Footer, api.Errno) {
	f, ok := find(data)
	if !ok {
		return Footer{}, api.ErrFile
	}
	if sum.Of(f.piece) != f.sum {
		return Footer{}, api.ErrSum
	}
	r := reader{in: input.New(f.piece), told: Footer{Begins: f.begins}}
	if !r.whole() {
		return Footer{}, api.ErrFooter
	}
	return r.told, api.OK
}

// Pages are the bytes of the file from a place on, up to the footer.
func (f Footer) Pages(data []byte, p Place) []byte {
	return pieceOf(data, p.First, f.Begins)
}

// found: the footer's bytes, where they begin in the file, and what the file
// says is their sum.
type found struct {
	piece  []byte
	begins int
	sum    uint32
}

// find tells where the footer of a file lies; false, if data is no file.
func find(data []byte) (found, bool) {
	if len(data) < len(mark)+tail || !bytes.HasPrefix(data, []byte(mark)) || !bytes.HasSuffix(data, []byte(mark)) {
		return found{}, false
	}
	end := len(data) - tail
	behind := input.New(pieceOf(data, end, len(data)))
	length, _ := behind.Number(4)
	said, _ := behind.Number(4)
	begins := end - int(length)
	if begins < len(mark) {
		return found{}, false
	}
	return found{piece: pieceOf(data, begins, end), begins: begins, sum: said}, true
}

// pieceOf is what stands in the file from one place to another, with no room
// behind it: an append to it must not write into the file.
func pieceOf(data []byte, from, to int) []byte {
	return data[from:to:to]
}

// reader: the footer's bytes that are left, and what it has told so far.
type reader struct {
	in   input.Reader
	told Footer
}

// whole reads all of the footer; false, if it may not be, or something stands
// behind it.
func (r *reader) whole() bool {
	return r.columns() && r.groups() && r.in.Left() == 0
}

// number reads a varint from least to most; false, if none comes next.
func (r *reader) number(least, most int) (int, bool) {
	n, ok := r.in.Varint()
	if !ok || int(n) < least || int(n) > most {
		return 0, false
	}
	return int(n), true
}

// columns reads how many columns there are, and these.
func (r *reader) columns() bool {
	count, ok := r.number(1, api.MaxColumns)
	if !ok {
		return false
	}
	for range count {
		if !r.column() {
			return false
		}
	}
	return true
}

// column reads the next column; false, if it may not be beside those ahead
// of it.
func (r *reader) column() bool {
	name, ok := r.name()
	if !ok || r.has(name) {
		return false
	}
	kind, ok := r.in.Number(1)
	if !ok {
		return false
	}
	c := api.Column{Name: name, Kind: api.Kind(kind &^ optional), Optional: kind&optional != 0}
	if c.Kind > api.Text {
		return false
	}
	r.told.Columns = append(r.told.Columns, c)
	return true
}

// name reads a column's name.
func (r *reader) name() (string, bool) {
	size, ok := r.number(1, api.MaxName)
	if !ok {
		return "", false
	}
	piece, ok := r.in.Take(size)
	return string(piece), ok
}

// has tells whether a column of that name has been read.
func (r *reader) has(name string) bool {
	for _, c := range r.told.Columns {
		if c.Name == name {
			return true
		}
	}
	return false
}

// groups reads how many groups there are, and these.
func (r *reader) groups() bool {
	count, ok := r.number(0, api.MaxGroups)
	if !ok {
		return false
	}
	for range count {
		if !r.group() {
			return false
		}
	}
	return true
}

// group reads how many rows the next group has, and where its pages are.
func (r *reader) group() bool {
	rows, ok := r.number(1, api.MaxRows)
	if !ok {
		return false
	}
	g := Group{Rows: rows}
	for range r.told.Columns {
		p, ok := r.place()
		if !ok {
			return false
		}
		g.Places = append(g.Places, p)
	}
	r.told.Groups = append(r.told.Groups, g)
	return true
}

// place reads where the first page of a column begins, and how many it has.
func (r *reader) place() (Place, bool) {
	first, ok := r.number(len(mark), r.told.Begins)
	if !ok {
		return Place{}, false
	}
	pages, ok := r.number(1, api.MaxPages)
	return Place{First: first, Pages: pages}, ok
}
