package footer

import "testing"

// A piece of the file that is handed on has no room behind it, whatever stands
// behind it in the file or behind the file.
func TestNoRoomBehindThePiece(t *testing.T) {
	const file = "STRApages\x01\x01a\x01\x00\x05\x00\x00\x00\x01\x02\x03\x04STRA"
	data := []byte(file + "behind")
	f, ok := find(data[:len(file)])
	if !ok || string(f.piece) != "\x01\x01a\x01\x00" || f.begins != 9 || f.sum != 0x04030201 {
		t.Fatalf("find = %q, %d, %08x, %v", f.piece, f.begins, f.sum, ok)
	}
	if cap(f.piece) != len(f.piece) {
		t.Errorf("the footer has room for %d bytes behind it", cap(f.piece)-len(f.piece))
	}
	_ = append(f.piece, "written"...)
	for from := range file {
		for to := from; to <= len(file); to++ {
			piece := pieceOf(data[:len(file)], from, to)
			if string(piece) != file[from:to] {
				t.Errorf("from %d to %d stands %q", from, to, piece)
			}
			_ = append(piece, 'X')
		}
	}
	pages := Footer{Begins: f.begins}.Pages(data[:len(file)], Place{First: 6})
	if string(pages) != "ges" || cap(pages) != len(pages) {
		t.Errorf("the pages are %q, with room for %d bytes behind them", pages, cap(pages)-len(pages))
	}
	_ = append(pages, "written"...)
	if string(data) != file+"behind" {
		t.Errorf("an append to a piece has written into the file: %q", data)
	}
}
