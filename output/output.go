// Package output writes bytes, one behind the other, as package input reads
// them.
package output

// Writer holds what has been written.
type Writer struct {
	written []byte
}

// Bytes are all that has been written.
func (w *Writer) Bytes() []byte {
	return w.written
}

// Size tells how many bytes have been written.
func (w *Writer) Size() int {
	return len(w.written)
}

// Piece writes a copy of the piece.
func (w *Writer) Piece(piece []byte) {
	w.written = append(w.written, piece...)
}

// Text writes the bytes of a text.
func (w *Writer) Text(text string) {
	w.written = append(w.written, text...)
}

// Number writes the size lowest bytes of n, the lowest one first.
func (w *Writer) Number(n uint64, size int) {
	for range size {
		w.written = append(w.written, byte(n))
		n >>= 8
	}
}

// Varint writes n, which is 0 to 4294967295, as a varint.
func (w *Writer) Varint(n int) {
	for n >= 0x80 {
		w.written = append(w.written, byte(n)|0x80)
		n >>= 7
	}
	w.written = append(w.written, byte(n))
}
