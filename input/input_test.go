package input

import (
	"math/rand"
	"testing"
)

func TestVarint(t *testing.T) {
	for _, c := range []struct {
		data string
		want uint32
		left int
	}{
		{"\x00", 0, 0}, {"\x00\x00", 0, 1}, {"\x7f", 127, 0}, {"\x80\x01", 128, 0}, {"\xac\x02\xff", 300, 1},
		{"\xff\x7f", 1<<14 - 1, 0}, {"\x80\x80\x01", 1 << 14, 0}, {"\xff\xff\xff\x7f", 1<<28 - 1, 0},
		{"\x80\x80\x80\x80\x01", 1 << 28, 0}, {"\xff\xff\xff\xff\x0f", 1<<32 - 1, 0},
		{"\xff\xff\xff\xff\x0f\x80", 1<<32 - 1, 1},
	} {
		r := New([]byte(c.data))
		if n, ok := r.Varint(); n != c.want || !ok || r.Left() != c.left {
			t.Errorf("Varint of %q = %d, %v, left %d", c.data, n, ok, r.Left())
		}
	}
	for _, data := range []string{
		"", "\x80", "\xff\xff\xff\xff", "\x80\x00", "\xff\x80\x00", "\x80\x80\x80\x80\x00",
		"\xff\xff\xff\xff\x10", "\xff\xff\xff\xff\x7f", "\xff\xff\xff\xff\x80", "\x80\x80\x80\x80\x80\x01",
		"\xff\xff\xff\xff\x8f\x00", "\xff\xff\xff\xff\xff\xff\xff\xff\xff\x01",
	} {
		r := New([]byte(data))
		if n, ok := r.Varint(); n != 0 || ok {
			t.Errorf("Varint of %q = %d, %v, which is none", data, n, ok)
		}
	}
}

func TestVarintOfEachLength(t *testing.T) {
	r := rand.New(rand.NewSource(1))
	for range 10000 {
		want := r.Uint32() >> r.Intn(32)
		var data []byte
		for n := want; ; n >>= 7 {
			if n < 0x80 {
				data = append(data, byte(n))
				break
			}
			data = append(data, byte(n)|0x80)
		}
		in := New(data)
		if got, ok := in.Varint(); got != want || !ok || in.Left() != 0 {
			t.Fatalf("Varint of %x = %d, %v, want %d", data, got, ok, want)
		}
	}
}

func TestNumber(t *testing.T) {
	for size, want := range []uint32{0, 0x81, 0xf281, 0x03f281, 0xc403f281} {
		r := New([]byte("\x81\xf2\x03\xc4\x55"))
		if n, ok := r.Number(size); n != want || !ok || r.Left() != 5-size {
			t.Errorf("Number(%d) = %x, %v, left %d", size, n, ok, r.Left())
		}
	}
	for _, c := range []struct {
		data string
		size int
	}{{"", 1}, {"a", 2}, {"abc", 4}, {"abcdefgh", 5}, {"abc", -1}} {
		r := New([]byte(c.data))
		if n, ok := r.Number(c.size); n != 0 || ok || r.Left() != len(c.data) {
			t.Errorf("Number(%d) of %q = %x, %v, left %d", c.size, c.data, n, ok, r.Left())
		}
	}
}

func TestTake(t *testing.T) {
	data := []byte("abcdef")
	r := New(data[:4])
	for _, n := range []int{-1, 5, 6, 1 << 31} {
		if piece, ok := r.Take(n); piece != nil || ok || r.Left() != 4 {
			t.Errorf("Take(%d) = %q, %v, left %d", n, piece, ok, r.Left())
		}
	}
	piece, ok := r.Take(3)
	if string(piece) != "abc" || !ok || r.Left() != 1 {
		t.Errorf("Take(3) = %q, %v, left %d", piece, ok, r.Left())
	}
	if _ = append(piece, 'X'); string(data) != "abcdef" {
		t.Errorf("an append to a piece has written into the data: %q", data)
	}
	if piece, ok := r.Take(0); len(piece) != 0 || !ok || r.Left() != 1 {
		t.Errorf("Take(0) = %q, %v, left %d", piece, ok, r.Left())
	}
	if piece, ok := r.Take(1); string(piece) != "d" || !ok || r.Left() != 0 {
		t.Errorf("Take(1) = %q, %v, left %d", piece, ok, r.Left())
	}
}
