// Package cells reads the cells of a page out of its bytes, and writes them.
package cells

import (
	"slices"

	"strata/api"
	"strata/input"
	"strata/runs"
)

// Layout: how the cells of a page are written.
type Layout struct {
	Kind api.Kind
	// Nulls: levels tell which cells are null.
	Nulls bool
	Count int
	// Indices: the values stand in the dictionary, and the page tells where.
	Indices    bool
	Dictionary []api.Cell
}

// Read tells the cells that data is, which must be all of a page's bytes.
func Read(data []byte, l Layout) ([]api.Cell, api.Errno) {
	in := input.New(data)
	levels, ok := readLevels(&in, l)
	if !ok {
		return nil, api.ErrLevel
	}
	values, ok := readValues(&in, l, howManyAre(levels))
	if !ok || in.Left() > 0 {
		return nil, api.ErrValue
	}
	return spread(levels, values), api.OK
}

// readLevels reads a number for each cell: 0, if it is null.
func readLevels(in *input.Reader, l Layout) ([]int, bool) {
	if !l.Nulls {
		return slices.Repeat([]int{1}, l.Count), true
	}
	size, ok := in.Varint()
	if !ok {
		return nil, false
	}
	piece, ok := in.Take(int(size))
	if !ok {
		return nil, false
	}
	return readRuns(piece, 1, l.Count)
}

// readRuns reads numbers in runs; false, if data is not just these.
func readRuns(data []byte, width, count int) ([]int, bool) {
	numbers, used, e := runs.Read(data, width, count)
	if e != api.OK || used != len(data) {
		return nil, false
	}
	return numbers, true
}

// howManyAre counts the cells that are not null.
func howManyAre(levels []int) int {
	count := 0
	for _, level := range levels {
		count += level
	}
	return count
}

// spread lays the values where the levels say, and nulls between them.
func spread(levels []int, values []api.Cell) []api.Cell {
	out := make([]api.Cell, 0, len(levels))
	next := 0
	for _, level := range levels {
		if level == 0 {
			out = append(out, api.Cell{Null: true})
			continue
		}
		out = append(out, values[next])
		next++
	}
	return out
}

// readValues reads the count cells that are not null.
func readValues(in *input.Reader, l Layout, count int) ([]api.Cell, bool) {
	if l.Indices {
		return readIndices(in, l.Dictionary, count)
	}
	switch l.Kind {
	case api.Bool:
		return readBools(in, count)
	case api.Int:
		return readEach(in, count, readInt)
	default:
		return readEach(in, count, readText)
	}
}

// readIndices reads cells by their places in the dictionary, up to the end.
func readIndices(in *input.Reader, dictionary []api.Cell, count int) ([]api.Cell, bool) {
	width, ok := in.Number(1)
	if !ok || width > api.MaxIndex {
		return nil, false
	}
	rest, _ := in.Take(in.Left())
	indices, ok := readRuns(rest, int(width), count)
	if !ok {
		return nil, false
	}
	var out []api.Cell
	for _, index := range indices {
		if index >= len(dictionary) {
			return nil, false
		}
		out = append(out, dictionary[index])
	}
	return out, true
}

// readBools reads a bit for each cell; the bits that are left over must be 0.
func readBools(in *input.Reader, count int) ([]api.Cell, bool) {
	bits, ok := in.Take((count + 7) / 8)
	if !ok {
		return nil, false
	}
	var out []api.Cell
	for i := range len(bits) * 8 {
		bit := bits[i/8] >> (i % 8) & 1
		if i < count {
			out = append(out, api.Cell{N: int(bit)})
		} else if bit != 0 {
			return nil, false
		}
	}
	return out, true
}

// readEach reads cells one behind the other, each by next.
func readEach(in *input.Reader, count int, next func(*input.Reader) (api.Cell, bool)) ([]api.Cell, bool) {
	var out []api.Cell
	for range count {
		c, ok := next(in)
		if !ok {
			return nil, false
		}
		out = append(out, c)
	}
	return out, true
}

// readInt reads a number of 64 bits.
func readInt(in *input.Reader) (api.Cell, bool) {
	low, ok := in.Number(4)
	if !ok {
		return api.Cell{}, false
	}
	high, ok := in.Number(4)
	return api.Cell{N: int(uint64(high)<<32 | uint64(low))}, ok
}

// readText reads a text behind its length.
func readText(in *input.Reader) (api.Cell, bool) {
	size, ok := in.Varint()
	if !ok {
		return api.Cell{}, false
	}
	piece, ok := in.Take(int(size))
	return api.Cell{S: string(piece)}, ok
}
