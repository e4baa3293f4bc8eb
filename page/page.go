// Package page reads and writes the pages of a file, as far as they are alike
// for all columns: their heads and their bytes.
package page

import (
	"strata/api"
	"strata/input"
	"strata/pack"
	"strata/sum"
)

// Sort tells what a page's cells are.
type Sort uint32

const (
	Plain      Sort = 0
	Dictionary Sort = 1
	Indices    Sort = 2
)

// Page: its sort, how many cells it has, how many bytes it is unpacked; and
// what is needed to tell these bytes.
type Page struct {
	Sort     Sort
	Cells    int
	Unpacked int
	packed   bool
	sum      uint32
	stored   []byte
}

// Next reads the next page; false, if its head is not whole or may not be, or
// its stored bytes do not end.
func Next(in *input.Reader) (Page, bool) {
	sort, ok := in.Number(1)
	if !ok || Sort(sort) > Indices {
		return Page{}, false
	}
	packed, ok := in.Number(1)
	if !ok || packed > 1 {
		return Page{}, false
	}
	p := Page{Sort: Sort(sort), packed: packed == 1}
	stored, ok := p.sizes(in)
	if !ok {
		return Page{}, false
	}
	p.sum, ok = in.Number(4)
	if !ok {
		return Page{}, false
	}
	p.stored, ok = in.Take(stored)
	return p, ok
}

// sizes reads how many cells and bytes a page has, and tells how many are
// stored; false, if a varint is none, or the bytes unpacked may not be so many.
func (p *Page) sizes(in *input.Reader) (int, bool) {
	var said [3]int
	for i := range said {
		n, ok := in.Varint()
		if !ok {
			return 0, false
		}
		said[i] = int(n)
	}
	stored := said[1]
	p.Cells, p.Unpacked = said[0], said[2]
	if p.packed {
		return stored, p.Unpacked <= api.MaxUnpacked
	}
	return stored, p.Unpacked == stored
}

// Bytes are the page's bytes, unpacked. They are only to be read: those of a
// page that is not packed lie in the file.
func (p Page) Bytes() ([]byte, api.Errno) {
	if sum.Of(p.stored) != p.sum {
		return nil, api.ErrSum
	}
	if !p.packed {
		return p.stored, api.OK
	}
	out, e := pack.Unpack(p.stored, p.Unpacked)
	if e != api.OK || len(out) != p.Unpacked {
		return nil, api.ErrPack
	}
	return out, api.OK
}
