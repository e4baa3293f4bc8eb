package strata_test

import (
	"math/rand"
	"strings"
	"testing"

	"strata/strata"
)

// sumInWords goes bit by bit, as the document's words say.
func sumInWords(data []byte) uint32 {
	n := uint32(0xffffffff)
	for _, b := range data {
		n ^= uint32(b)
		for range 8 {
			if fell := n % 2; fell == 1 {
				n = n/2 ^ 0xedb88320
			} else {
				n /= 2
			}
		}
	}
	return 0xffffffff - n
}

func TestP3Sum(t *testing.T) {
	for _, c := range []struct {
		data string
		want uint32
	}{
		{"", 0}, {"123456789", 0xcbf43926}, {"a", 0xe8b7be43}, {"\x00", 0xd202ef8d}, {"\xff", 0xff000000},
		{"\x00\x00\x00\x00", 0x2144df1c}, {"The quick brown fox jumps over the lazy dog", 0x414fa339},
	} {
		if got := strata.Sum([]byte(c.data)); got != c.want {
			t.Errorf("P3: Sum(%q) = %08x, want %08x", c.data, got, c.want)
		}
	}
	if got := strata.Sum(nil); got != 0 {
		t.Errorf("P3: Sum(nil) = %08x", got)
	}
}

func TestP3SumOfEachByte(t *testing.T) {
	for a := range 256 {
		for b := range 256 {
			data := []byte{byte(a), byte(b)}
			if got, want := strata.Sum(data), sumInWords(data); got != want {
				t.Fatalf("P3: Sum(%x) = %08x, want %08x", data, got, want)
			}
		}
	}
}

func TestP3SumOfManyBytes(t *testing.T) {
	r := rand.New(rand.NewSource(3))
	for _, size := range []int{1, 7, 255, 256, 257, 4096, 100000} {
		data := make([]byte, size)
		r.Read(data)
		if got, want := strata.Sum(data), sumInWords(data); got != want {
			t.Errorf("P3: Sum of %d bytes = %08x, want %08x", size, got, want)
		}
	}
	long := []byte(strings.Repeat("\xff", 5000))
	if got, want := strata.Sum(long), sumInWords(long); got != want {
		t.Errorf("P3: Sum of 5000 times ff = %08x, want %08x", got, want)
	}
}
