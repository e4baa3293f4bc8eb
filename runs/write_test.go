package runs

import (
	"math/rand"
	"slices"
	"testing"

	"strata/api"
)

func TestWrite(t *testing.T) {
	for _, c := range []struct {
		numbers []int
		width   int
		want    string
	}{
		{nil, 3, ""},
		{[]int{0, 1, 2, 3, 4, 5, 6, 7}, 3, "\x03\x88\xc6\xfa"},
		{slices.Repeat([]int{1}, 8), 1, "\x10\x01"},
		{slices.Repeat([]int{1}, 7), 1, "\x03\x7f"},
		{[]int{5}, 9, "\x03\x05\x00\x00\x00\x00\x00\x00\x00\x00"},
		{slices.Repeat([]int{0x1ff}, 9), 9, "\x12\xff\x01"},
		{slices.Repeat([]int{0}, 5), 0, "\x03"},
		{slices.Repeat([]int{0}, 100), 0, "\xc8\x01"},
		// Of nine equal ones behind another one, seven go into its eight.
		{append([]int{0}, slices.Repeat([]int{1}, 9)...), 1, "\x03\xfe\x03\x03"},
		// Each eight is a run of its own.
		{slices.Repeat([]int{0, 1}, 9), 1, "\x03\xaa\x03\xaa\x03\x02"},
	} {
		if got := Write(c.numbers, c.width); string(got) != c.want {
			t.Errorf("Write(%v, %d) = %x, want %x", c.numbers, c.width, got, c.want)
		}
	}
}

func TestWrittenAndRead(t *testing.T) {
	r := rand.New(rand.NewSource(1))
	for range 5000 {
		width := r.Intn(api.MaxWidth + 1)
		var numbers []int
		for range r.Intn(20) {
			numbers = append(numbers, slices.Repeat([]int{r.Intn(1 << width)}, 1+r.Intn(1+r.Intn(100)))...)
		}
		data := Write(numbers, width)
		got, used, e := Read(data, width, len(numbers))
		if !slices.Equal(got, numbers) || used != len(data) || e != api.OK {
			t.Fatalf("Write(%v, %d) = %x, read as %v, %d, %d", numbers, width, data, got, used, e)
		}
	}
}
