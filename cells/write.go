package cells

import (
	"strata/api"
	"strata/output"
	"strata/runs"
)

// Plain tells the bytes of a plain page of these cells, or of a dictionary;
// with nulls, levels tell which of them are null.
func Plain(list []api.Cell, kind api.Kind, nulls bool) []byte {
	var out output.Writer
	if nulls {
		writeLevels(&out, list)
	}
	writeValues(&out, valuesOf(list), kind)
	return out.Bytes()
}

// writeLevels writes a number for each cell: 0, if it is null.
func writeLevels(out *output.Writer, list []api.Cell) {
	var levels []int
	for _, c := range list {
		if c.Null {
			levels = append(levels, 0)
		} else {
			levels = append(levels, 1)
		}
	}
	piece := runs.Write(levels, 1)
	out.Varint(len(piece))
	out.Piece(piece)
}

// valuesOf are the cells that are not null.
func valuesOf(list []api.Cell) []api.Cell {
	var out []api.Cell
	for _, c := range list {
		if !c.Null {
			out = append(out, c)
		}
	}
	return out
}

// writeValues writes cells that are not null.
func writeValues(out *output.Writer, values []api.Cell, kind api.Kind) {
	if kind == api.Bool {
		writeBools(out, values)
		return
	}
	for _, c := range values {
		if kind == api.Int {
			out.Number(uint64(c.N), 8)
		} else {
			out.Varint(len(c.S))
			out.Text(c.S)
		}
	}
}

// writeBools writes a bit for each cell.
func writeBools(out *output.Writer, values []api.Cell) {
	bits := make([]byte, (len(values)+7)/8)
	for i, c := range values {
		bits[i/8] |= byte(c.N) << (i % 8)
	}
	out.Piece(bits)
}
