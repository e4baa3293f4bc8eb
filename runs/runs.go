// Package runs reads and writes numbers in runs.
package runs

import (
	"strata/api"
	"strata/input"
)

// Read tells the count numbers whose runs stand at the beginning of data, and
// how many bytes these runs have.
func Read(data []byte, width, count int) ([]int, int, api.Errno) {
	if width < 0 || width > api.MaxWidth || count < 0 || count > api.MaxCount {
		return nil, 0, api.ErrArg
	}
	r := reader{in: input.New(data), width: width, count: count, numbers: make([]int, 0, count)}
	for r.missing() > 0 {
		if !r.run() {
			return nil, 0, api.ErrRuns
		}
	}
	return r.numbers, len(data) - r.in.Left(), api.OK
}

// reader: the bytes that are left, the bits of a number, how many numbers are
// asked for, and those that have been read.
type reader struct {
	in      input.Reader
	width   int
	count   int
	numbers []int
}

// missing tells how many numbers are still to be read.
func (r *reader) missing() int {
	return r.count - len(r.numbers)
}

// run reads the next run; false, if it may not be.
func (r *reader) run() bool {
	head, ok := r.in.Varint()
	if !ok {
		return false
	}
	times := int(head >> 1)
	if times == 0 {
		return false
	}
	if head&1 == 0 {
		return r.equal(times)
	}
	return r.eights(times)
}

// equal reads a number that stands there so many times.
func (r *reader) equal(times int) bool {
	n, ok := r.in.Number((r.width + 7) / 8)
	if !ok || n>>r.width != 0 || times > r.missing() {
		return false
	}
	for range times {
		r.numbers = append(r.numbers, int(n))
	}
	return true
}

// eights reads so many times 8 numbers, bit by bit.
func (r *reader) eights(times int) bool {
	missing := r.missing()
	// Ahead of any product with times, which could wrap round.
	if times > (missing+7)/8 {
		return false
	}
	bits, ok := r.in.Take(times * r.width)
	if !ok {
		return false
	}
	for i := range times * 8 {
		n := numberAt(bits, i*r.width, r.width)
		if i < missing {
			r.numbers = append(r.numbers, n)
		} else if n != 0 {
			return false
		}
	}
	return true
}

// numberAt is the number of width bits that begins at the bit from.
func numberAt(bits []byte, from, width int) int {
	n := 0
	for i := range width {
		at := from + i
		bit := bits[at/8] >> (at % 8) & 1
		n |= int(bit) << i
	}
	return n
}
