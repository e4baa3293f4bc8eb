package strata_test

import (
	"bytes"
	"math/rand"
	"strings"
	"testing"

	"strata/api"
	"strata/strata"
)

// varint writes n as a varint.
func varint(n int) []byte {
	var out []byte
	for n >= 0x80 {
		out = append(out, byte(n)|0x80)
		n >>= 7
	}
	return append(out, byte(n))
}

// lowest writes n in size bytes, the lowest one first.
func lowest(n, size int) []byte {
	var out []byte
	for range size {
		out = append(out, byte(n))
		n >>= 8
	}
	return out
}

// literal is an element; its length stands in size bytes, or in the tag if
// size is 0.
func literal(text []byte, size int) []byte {
	less := len(text) - 1
	if size == 0 {
		return append([]byte{byte(less << 2)}, text...)
	}
	return append(append([]byte{byte((59 + size) << 2)}, lowest(less, size)...), text...)
}

// copyOf is an element of the sort 1 to 3.
func copyOf(sort, length, back int) []byte {
	switch sort {
	case 1:
		return []byte{byte(back/256<<5 | (length-4)<<2 | 1), byte(back)}
	case 2:
		return append([]byte{byte((length-1)<<2 | 2)}, lowest(back, 2)...)
	}
	return append([]byte{byte((length-1)<<2 | 3)}, lowest(back, 4)...)
}

// packed is elements behind how many bytes they become.
func packed(said int, elements ...[]byte) []byte {
	return append(varint(said), bytes.Join(elements, nil)...)
}

func wantUnpacked(t *testing.T, data []byte, most int, want []byte) {
	t.Helper()
	if got, e := strata.Unpack(data, most); !bytes.Equal(got, want) || e != api.OK {
		t.Errorf("P4: Unpack(%.40x, %d) = %.40q (%d bytes), %d, want %.40q (%d bytes)", data, most, got, len(got), e, want, len(want))
	}
}

func wantNotUnpacked(t *testing.T, data []byte, most int, want api.Errno) {
	t.Helper()
	if got, e := strata.Unpack(data, most); len(got) != 0 || e != want {
		t.Errorf("P4: Unpack(%.40x, %d) = %.40q, %d, want error %d", data, most, got, e, want)
	}
}

func TestP4Examples(t *testing.T) {
	wantUnpacked(t, []byte("\x05\x10abcde"), 100, []byte("abcde"))
	wantUnpacked(t, []byte("\x06\x00a\x05\x01"), 100, []byte("aaaaaa"))
	wantNotUnpacked(t, []byte("\x02\x00a\x05\x01"), 100, api.ErrPack)
}

func TestP4Arguments(t *testing.T) {
	for _, most := range []int{-1, -1 << 31, api.MaxUnpacked + 1, 1<<31 - 1} {
		wantNotUnpacked(t, []byte("\x00"), most, api.ErrArg)
		wantNotUnpacked(t, nil, most, api.ErrArg)
		wantNotUnpacked(t, []byte("\x80\x00"), most, api.ErrArg)
	}
	wantUnpacked(t, []byte("\x00"), 0, nil)
	wantUnpacked(t, []byte("\x00"), api.MaxUnpacked, nil)
}

func TestP4Varint(t *testing.T) {
	for _, data := range []string{"", "\x80", "\x80\x00", "\x85\x00\x10abcde", "\xff\xff\xff\xff\x10", "\x80\x80\x80\x80\x80\x01"} {
		wantNotUnpacked(t, []byte(data), 0, api.ErrVarint)
		wantNotUnpacked(t, []byte(data), api.MaxUnpacked, api.ErrVarint)
	}
}

func TestP4Size(t *testing.T) {
	wantUnpacked(t, []byte("\x05\x10abcde"), 5, []byte("abcde"))
	wantNotUnpacked(t, []byte("\x05\x10abcde"), 4, api.ErrSize)
	wantNotUnpacked(t, []byte("\x01\x00a"), 0, api.ErrSize)
	wantNotUnpacked(t, varint(api.MaxUnpacked+1), api.MaxUnpacked, api.ErrSize)
	wantNotUnpacked(t, []byte("\xff\xff\xff\xff\x0f"), api.MaxUnpacked, api.ErrSize)
	// Named ahead of what the elements lack.
	wantNotUnpacked(t, []byte("\x06\x10abcd"), 5, api.ErrSize)
}

func TestP4Literals(t *testing.T) {
	text := bytes.Repeat([]byte("0123456789abcdefg"), 1<<16)[:1<<20]
	for _, n := range []int{1, 2, 59, 60} {
		wantUnpacked(t, packed(n, literal(text[:n], 0)), n, text[:n])
	}
	for size, lengths := range [][]int{1: {1, 60, 61, 255, 256}, 2: {1, 257, 65535, 65536}, 3: {1, 256, 65537, 1 << 20}, 4: {1, 300, 70000, 1 << 20}} {
		for _, n := range lengths {
			whole := packed(n, literal(text[:n], size))
			wantUnpacked(t, whole, api.MaxUnpacked, text[:n])
			wantNotUnpacked(t, whole[:len(whole)-1], api.MaxUnpacked, api.ErrPack)
			wantNotUnpacked(t, append(whole, 'x'), api.MaxUnpacked, api.ErrPack)
		}
	}
}

func TestP4LiteralsThatMayNotBe(t *testing.T) {
	for _, data := range []string{
		"\x01\x00", "\x02\x04a", "\x01\xf0", "\x01\xf4\x00", "\x01\xf8\x00\x00", "\x01\xfc\x00\x00\x00",
		"\x01\xf0\x00", "\x01\xf0\x01ab", "\x01\xfc\xff\xff\xff\xff", "\x01\xfc\xff\xff\xff\xffa", "\x00\xfc\xff\xff\xff\xff",
		"\x01\xfc\xff\xff\xff\x7fa", "\x01\xfc\x00\x00\x00\x80a", "\x01\xf8\x00\x00\x01a",
	} {
		wantNotUnpacked(t, []byte(data), 100, api.ErrPack)
	}
}

func TestP4Copies(t *testing.T) {
	r := rand.New(rand.NewSource(4))
	text := make([]byte, 70000)
	r.Read(text)
	ahead := literal(text, 3)
	for _, c := range []struct{ sort, length, back int }{
		{1, 4, 1}, {1, 11, 1}, {1, 4, 255}, {1, 5, 256}, {1, 7, 257}, {1, 11, 2047},
		{2, 1, 1}, {2, 64, 1}, {2, 64, 63}, {2, 64, 64}, {2, 3, 256}, {2, 10, 65535},
		{3, 1, 1}, {3, 64, 2}, {3, 64, 65536}, {3, 64, 70000}, {3, 1, 69999},
	} {
		want := bytes.Clone(text)
		for range c.length {
			want = append(want, want[len(want)-c.back])
		}
		whole := packed(len(want), ahead, copyOf(c.sort, c.length, c.back))
		wantUnpacked(t, whole, api.MaxUnpacked, want)
		wantNotUnpacked(t, whole[:len(whole)-1], api.MaxUnpacked, api.ErrPack)
		wantNotUnpacked(t, packed(len(want)-1, whole[3:]), api.MaxUnpacked, api.ErrPack)
		wantNotUnpacked(t, packed(len(want)+1, whole[3:]), api.MaxUnpacked, api.ErrPack)
	}
}

func TestP4CopiesThatMayNotBe(t *testing.T) {
	abc := literal([]byte("abc"), 0)
	for sort := 1; sort <= 3; sort++ {
		wantUnpacked(t, packed(8, abc, copyOf(sort, 5, 3)), 100, []byte("abcabcab"))
		wantNotUnpacked(t, packed(8, abc, copyOf(sort, 5, 0)), 100, api.ErrPack)
		wantNotUnpacked(t, packed(8, abc, copyOf(sort, 5, 4)), 100, api.ErrPack)
		wantNotUnpacked(t, packed(8, abc, copyOf(sort, 5, 1027)), 100, api.ErrPack)
		wantNotUnpacked(t, packed(5, copyOf(sort, 5, 1)), 100, api.ErrPack)
		wantNotUnpacked(t, packed(5, copyOf(sort, 5, 0)), 100, api.ErrPack)
	}
	for _, back := range []int{1 << 16, 1<<16 + 1, 1 << 24, 1<<24 + 3, 1 << 31, 1<<32 - 1} {
		wantNotUnpacked(t, packed(8, abc, copyOf(3, 5, back)), 100, api.ErrPack)
	}
}

func TestP4MoreOrLess(t *testing.T) {
	for _, data := range []string{"\x01", "\x00\x00", "\x00\x00a", "\x00\x01", "\x04\x10abcde", "\x06\x10abcde", "\x01\x00a\x00", "\x01\x00a\x00b", "\x01\x00a\x01\x01", "\x01\x00a\x02\x01\x00"} {
		wantNotUnpacked(t, []byte(data), 100, api.ErrPack)
	}
	wantNotUnpacked(t, varint(api.MaxUnpacked), api.MaxUnpacked, api.ErrPack)
}

func TestP4AsMuchAsMayBe(t *testing.T) {
	elements := [][]byte{literal([]byte{'z'}, 0)}
	for range api.MaxUnpacked/64 - 1 {
		elements = append(elements, copyOf(2, 64, 1))
	}
	elements = append(elements, copyOf(3, 63, 1))
	want := []byte(strings.Repeat("z", api.MaxUnpacked))
	wantUnpacked(t, packed(len(want), elements...), api.MaxUnpacked, want)
	wantNotUnpacked(t, packed(len(want), elements...), api.MaxUnpacked-1, api.ErrSize)
	elements = append(elements, copyOf(1, 4, 1))
	wantNotUnpacked(t, packed(len(want), elements...), api.MaxUnpacked, api.ErrPack)
}

// anyPacked makes elements by chance, and what they become.
func anyPacked(r *rand.Rand) ([]byte, []byte) {
	var elements [][]byte
	var want []byte
	for range r.Intn(12) {
		sort := r.Intn(4)
		if sort == 0 || len(want) == 0 {
			size := r.Intn(5)
			text := make([]byte, 1+r.Intn(60+min(size, 1)*100))
			r.Read(text)
			elements = append(elements, literal(text, size))
			want = append(want, text...)
			continue
		}
		length, back := 1+r.Intn(64), 1+r.Intn(len(want))
		if sort == 1 {
			length, back = 4+r.Intn(8), 1+r.Intn(min(len(want), 2047))
		}
		elements = append(elements, copyOf(sort, length, back))
		for range length {
			want = append(want, want[len(want)-back])
		}
	}
	return packed(len(want), elements...), want
}

func TestP4AnyElements(t *testing.T) {
	r := rand.New(rand.NewSource(44))
	for range 3000 {
		data, want := anyPacked(r)
		wantUnpacked(t, data, len(want)+r.Intn(1000), want)
		wantUnpacked(t, data, len(want), want)
		if len(want) == 0 {
			continue
		}
		wantNotUnpacked(t, data, len(want)-1, api.ErrSize)
		wantNotUnpacked(t, append(bytes.Clone(data), byte(r.Intn(256))), 10000, api.ErrPack)
		cut := len(varint(len(want))) + r.Intn(len(data)-len(varint(len(want))))
		wantNotUnpacked(t, data[:cut], 10000, api.ErrPack)
	}
}
