package page

import (
	"strata/output"
	"strata/sum"
)

// Write writes a page that is not packed, of so many cells and of these bytes.
func Write(file *output.Writer, sort Sort, cells int, data []byte) {
	const notPacked = 0
	file.Number(uint64(sort), 1)
	file.Number(notPacked, 1)
	file.Varint(cells)
	// Stored, and unpacked: as many, since nothing is packed.
	file.Varint(len(data))
	file.Varint(len(data))
	file.Number(uint64(sum.Of(data)), 4)
	file.Piece(data)
}
