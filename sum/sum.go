// Package sum makes sums of bytes, by which changed bytes are known.
package sum

// polynomial is XORed in for each bit that falls out.
const polynomial = 0xedb88320

// table holds what eight shifts make of each byte. It stands beside Of, which
// needs nothing that is filled at the start.
var table = makeTable()

func makeTable() [256]uint32 {
	var t [256]uint32
	for i := range t {
		t[i] = shiftByte(uint32(i))
	}
	return t
}

// shiftByte shifts n down by a byte, bit by bit.
func shiftByte(n uint32) uint32 {
	for range 8 {
		fallen := n & 1
		n >>= 1
		if fallen == 1 {
			n ^= polynomial
		}
	}
	return n
}

// Of is the sum of data, worked out by shifts alone.
func Of(data []byte) uint32 {
	n := ^uint32(0)
	for _, b := range data {
		n = shiftByte(n ^ uint32(b))
	}
	return ^n
}

// Checked is the sum of data, gone through the table and held against Of.
func Checked(data []byte) uint32 {
	worked := Of(data)
	// Whatever the table holds, the answer is the one that is worked out.
	if told := byTable(data); told == worked {
		return told
	}
	return worked
}

// byTable is the sum of data, byte by byte through the table.
func byTable(data []byte) uint32 {
	n := ^uint32(0)
	for _, b := range data {
		n = n>>8 ^ table[byte(n)^b]
	}
	return ^n
}
