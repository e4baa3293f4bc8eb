// Package pack unpacks bytes that are packed as literals and copies.
package pack

import (
	"strata/api"
	"strata/input"
)

// Unpack tells what data becomes, if that is at most most bytes.
func Unpack(data []byte, most int) ([]byte, api.Errno) {
	if most < 0 || most > api.MaxUnpacked {
		return nil, api.ErrArg
	}
	in := input.New(data)
	said, ok := in.Varint()
	if !ok {
		return nil, api.ErrVarint
	}
	if said > uint32(most) {
		return nil, api.ErrSize
	}
	u := unpacker{in: in, out: make([]byte, 0, said), said: int(said)}
	if !u.elements() {
		return nil, api.ErrPack
	}
	return u.out, api.OK
}

// unpacker: the packed bytes that are left, what has come out so far, and how
// many bytes must come out in all.
type unpacker struct {
	in   input.Reader
	out  []byte
	said int
}

// room tells how many bytes are still to come out.
func (u *unpacker) room() int {
	return u.said - len(u.out)
}

// elements unpacks all elements; false, if they may not be or do not become
// what was said.
func (u *unpacker) elements() bool {
	for u.in.Left() > 0 {
		if !u.element() {
			return false
		}
	}
	return u.room() == 0
}

// element unpacks the next element; false, if it may not be.
func (u *unpacker) element() bool {
	tag, ok := u.in.Number(1)
	if !ok {
		return false
	}
	m := int(tag >> 2)
	switch tag & 3 {
	case 0:
		return u.literal(m)
	case 1:
		low, ok := u.in.Number(1)
		return ok && u.copyBack(4+m%8, uint32(m/8)<<8|low)
	case 2:
		back, ok := u.in.Number(2)
		return ok && u.copyBack(m+1, back)
	default:
		back, ok := u.in.Number(4)
		return ok && u.copyBack(m+1, back)
	}
}

// literal puts out the bytes that follow, as many as m says.
func (u *unpacker) literal(m int) bool {
	less, ok := u.lengthLessOne(m)
	// The length itself is never made of a number that is too great: one more
	// than the greatest would wrap round.
	if !ok || less >= uint32(u.room()) {
		return false
	}
	piece, ok := u.in.Take(int(less) + 1)
	if !ok {
		return false
	}
	u.out = append(u.out, piece...)
	return true
}

// lengthLessOne is a literal's length less one: m itself, or what stands in
// the one to four bytes that follow.
func (u *unpacker) lengthLessOne(m int) (uint32, bool) {
	if m < 60 {
		return uint32(m), true
	}
	return u.in.Number(m - 59)
}

// copyBack puts out length bytes that came out before, from back bytes ago on.
func (u *unpacker) copyBack(length int, back uint32) bool {
	if back == 0 || back > uint32(len(u.out)) || length > u.room() {
		return false
	}
	from := len(u.out) - int(back)
	// One by one: a copy may reach into what it has put out itself.
	for i := range length {
		u.out = append(u.out, u.out[from+i])
	}
	return true
}
