package output

import (
	"testing"

	"strata/input"
)

func wantBytes(t *testing.T, what string, w Writer, want string) {
	t.Helper()
	if got := string(w.Bytes()); got != want || w.Size() != len(want) {
		t.Errorf("%s: %x (%d bytes), want %x", what, got, w.Size(), want)
	}
}

func TestPieces(t *testing.T) {
	var w Writer
	wantBytes(t, "nothing", w, "")
	piece := []byte("abc")
	w.Piece(piece)
	clear(piece)
	w.Text("\x00d")
	w.Piece(nil)
	w.Text("")
	wantBytes(t, "pieces", w, "abc\x00d")
}

func TestNumber(t *testing.T) {
	for size, want := range []string{"", "\x08", "\x08\x07", "\x08\x07\x06", "\x08\x07\x06\x05", 8: "\x08\x07\x06\x05\x04\x03\x02\x81"} {
		if size > 4 && size < 8 {
			continue
		}
		var w Writer
		w.Number(0x8102030405060708, size)
		wantBytes(t, "a number", w, want)
	}
}

func TestVarint(t *testing.T) {
	for n, want := range map[int]string{0: "\x00", 1: "\x01", 127: "\x7f", 128: "\x80\x01", 16383: "\xff\x7f", 16384: "\x80\x80\x01", 1<<32 - 1: "\xff\xff\xff\xff\x0f"} {
		var w Writer
		w.Varint(n)
		wantBytes(t, "a varint", w, want)
	}
	for shift := range 32 {
		for _, n := range []int{1<<shift - 1, 1 << shift, 1<<shift + 1} {
			var w Writer
			w.Varint(n)
			in := input.New(w.Bytes())
			if got, ok := in.Varint(); int(got) != n || !ok || in.Left() != 0 {
				t.Errorf("%d is written as %x and read as %d", n, w.Bytes(), got)
			}
		}
	}
}
