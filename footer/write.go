package footer

import (
	"strata/api"
	"strata/output"
	"strata/sum"
)

// Begin writes what stands ahead of the pages of a file.
func Begin(file *output.Writer) {
	file.Text(mark)
}

// End writes what stands behind the pages of a file: a footer that tells these
// columns and groups, and its tail.
func End(file *output.Writer, columns []api.Column, groups []Group) {
	piece := write(columns, groups)
	file.Piece(piece)
	file.Number(uint64(len(piece)), 4)
	file.Number(uint64(sum.Of(piece)), 4)
	file.Text(mark)
}

// write tells the bytes of a footer.
func write(columns []api.Column, groups []Group) []byte {
	var out output.Writer
	out.Varint(len(columns))
	for _, c := range columns {
		writeColumn(&out, c)
	}
	out.Varint(len(groups))
	for _, g := range groups {
		writeGroup(&out, g)
	}
	return out.Bytes()
}

func writeColumn(out *output.Writer, c api.Column) {
	out.Varint(len(c.Name))
	out.Text(c.Name)
	kind := uint64(c.Kind)
	if c.Optional {
		kind |= optional
	}
	out.Number(kind, 1)
}

func writeGroup(out *output.Writer, g Group) {
	out.Varint(g.Rows)
	for _, p := range g.Places {
		out.Varint(p.First)
		out.Varint(p.Pages)
	}
}
