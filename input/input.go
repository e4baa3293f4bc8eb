// Package input reads bytes that come from anywhere, from the front on.
package input

// Reader holds what has not been read yet.
type Reader struct {
	rest []byte
}

// New is a reader of all of data, which it only reads.
func New(data []byte) Reader {
	return Reader{rest: data}
}

// Left tells how many bytes have not been read yet.
func (r *Reader) Left() int {
	return len(r.rest)
}

// Take reads the next n bytes; false, if there are fewer.
func (r *Reader) Take(n int) ([]byte, bool) {
	if n < 0 || n > len(r.rest) {
		return nil, false
	}
	// No room behind the piece: an append to it must not write into data.
	piece := r.rest[:n:n]
	r.rest = r.rest[n:]
	return piece, true
}

// Number reads a number of size bytes (0 to 4), the lowest one first;
// false, if there are fewer.
func (r *Reader) Number(size int) (uint32, bool) {
	if size > 4 {
		return 0, false
	}
	piece, ok := r.Take(size)
	if !ok {
		return 0, false
	}
	return lowestFirst(piece), true
}

// lowestFirst is the number that at most four bytes are.
func lowestFirst(piece []byte) uint32 {
	var n uint32
	switch len(piece) {
	case 4:
		n = uint32(piece[3])
		fallthrough
	case 3:
		n = n<<8 | uint32(piece[2])
		fallthrough
	case 2:
		n = n<<8 | uint32(piece[1])
		fallthrough
	case 1:
		n = n<<8 | uint32(piece[0])
	}
	return n
}

// Varint reads a varint; false, if none comes next.
func (r *Reader) Varint() (uint32, bool) {
	var n uint32
	for i, b := range r.rest {
		// Four bytes have held 28 bits: the fifth has room for 4 and is the last.
		if i == 4 && b > 0x0f {
			return 0, false
		}
		n |= uint32(b&0x7f) << (7 * i)
		if b >= 0x80 {
			continue
		}
		if b == 0 && i > 0 {
			return 0, false
		}
		r.rest = r.rest[i+1:]
		return n, true
	}
	return 0, false
}
