package runs

import "strata/output"

// Write tells the runs of all numbers, which are below 2 to the width.
func Write(numbers []int, width int) []byte {
	var out output.Writer
	for len(numbers) > 0 {
		size := equalOnes(numbers)
		if size >= 8 {
			writeEqual(&out, numbers[0], width, size)
		} else {
			size = min(len(numbers), 8)
			writeEight(&out, numbers[:size:size], width)
		}
		numbers = numbers[size:]
	}
	return out.Bytes()
}

// equalOnes counts the numbers at the beginning that are equal.
func equalOnes(numbers []int) int {
	for i, n := range numbers {
		if n != numbers[0] {
			return i
		}
	}
	return len(numbers)
}

// writeEqual writes a run of a number that stands there so many times.
func writeEqual(out *output.Writer, n, width, times int) {
	out.Varint(times << 1)
	out.Number(uint64(n), (width+7)/8)
}

// writeEight writes a run of one eight; those that are missing are 0.
func writeEight(out *output.Writer, numbers []int, width int) {
	bits := make([]byte, width)
	for i, n := range numbers {
		putNumber(bits, i*width, width, n)
	}
	out.Varint(1<<1 | 1)
	out.Piece(bits)
}

// putNumber puts a number of width bits where the bit from is; the bits there
// are 0.
func putNumber(bits []byte, from, width, n int) {
	for i := range width {
		at := from + i
		bits[at/8] |= byte(n>>i&1) << (at % 8)
	}
}
