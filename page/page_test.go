package page

import (
	"hash/crc32"
	"testing"

	"strata/api"
	"strata/input"
)

// A piece of the file that is handed on has no room behind it, also the bytes
// of a page that is not packed, which lie in the file.
func TestNoRoomBehindThePiece(t *testing.T) {
	n := crc32.ChecksumIEEE([]byte("abc"))
	head := "\x00\x00\x01\x03\x03" + string([]byte{byte(n), byte(n >> 8), byte(n >> 16), byte(n >> 24)})
	file := head + "abc" + "behind"
	data := []byte(file)
	in := input.New(data)
	p, ok := Next(&in)
	out, e := p.Bytes()
	if !ok || string(out) != "abc" || e != api.OK || in.Left() != len("behind") {
		t.Fatalf("Next, Bytes = %v, %q, %d, and %d bytes are left", ok, out, e, in.Left())
	}
	if cap(out) != len(out) {
		t.Errorf("the page has room for %d bytes behind it", cap(out)-len(out))
	}
	_ = append(out, "written"...)
	if string(data) != file {
		t.Errorf("an append to a page has written into the file: %q", data)
	}
}
