package cells

import (
	"math/bits"

	"strata/api"
	"strata/output"
	"strata/runs"
)

// Dictionary: the texts of some cells, each of them once, in the order in which
// they come first; and of each cell that is not null, which text it is.
type Dictionary struct {
	Words   []api.Cell
	indices []int
}

// DictionaryOf is the dictionary of cells of texts.
func DictionaryOf(list []api.Cell) Dictionary {
	var d Dictionary
	at := map[string]int{}
	for _, c := range valuesOf(list) {
		index, known := at[c.S]
		if !known {
			index = len(d.Words)
			at[c.S] = index
			d.Words = append(d.Words, c)
		}
		d.indices = append(d.indices, index)
	}
	return d
}

// Repeats tells whether a text is there twice.
func (d Dictionary) Repeats() bool {
	return len(d.Words) < len(d.indices)
}

// Indices tells the bytes of a page of indices of the cells of which this is
// the dictionary; with nulls, levels tell which of them are null.
func (d Dictionary) Indices(list []api.Cell, nulls bool) []byte {
	var out output.Writer
	if nulls {
		writeLevels(&out, list)
	}
	width := d.width()
	out.Number(uint64(width), 1)
	out.Piece(runs.Write(d.indices, width))
	return out.Bytes()
}

// width is the least one that holds the greatest index.
func (d Dictionary) width() int {
	greatest := max(len(d.Words)-1, 0)
	return bits.Len(uint(greatest))
}
