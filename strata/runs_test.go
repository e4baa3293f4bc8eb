package strata_test

import (
	"bytes"
	"math/rand"
	"slices"
	"testing"

	"strata/api"
	"strata/strata"
)

// equalRun is a run of a number that stands there so many times.
func equalRun(n, width, times int) []byte {
	return append(varint(times*2), lowest(n, (width+7)/8)...)
}

// eightsRun is a run of so many numbers that they are eights.
func eightsRun(width int, numbers []int) []byte {
	bits := make([]byte, len(numbers)*width/8)
	for i, n := range numbers {
		for b := range width {
			if n>>b&1 == 1 {
				bits[(i*width+b)/8] |= 1 << ((i*width + b) % 8)
			}
		}
	}
	return append(varint(len(numbers)/8*2+1), bits...)
}

func wantRuns(t *testing.T, data []byte, width int, want []int, used int) {
	t.Helper()
	got, n, e := strata.Runs(data, width, len(want))
	if !slices.Equal(got, want) || n != used || e != api.OK {
		t.Errorf("P5: Runs(%.40x, %d, %d) = %.20v (%d), %d, %d, want %.20v, %d", data, width, len(want), got, len(got), n, e, want, used)
	}
}

func wantNoRuns(t *testing.T, data []byte, width, count int, want api.Errno) {
	t.Helper()
	got, n, e := strata.Runs(data, width, count)
	if len(got) != 0 || n != 0 || e != want {
		t.Errorf("P5: Runs(%.40x, %d, %d) = %.20v, %d, %d, want error %d", data, width, count, got, n, e, want)
	}
}

func TestP5Examples(t *testing.T) {
	wantRuns(t, []byte("\x10\x01"), 1, []int{1, 1, 1, 1, 1, 1, 1, 1}, 2)
	wantRuns(t, []byte("\x03\x88\xc6\xfa"), 3, []int{0, 1, 2, 3, 4, 5, 6, 7}, 4)
}

func TestP5Arguments(t *testing.T) {
	for _, data := range []string{"", "\x10\x01", "\x00", "\xff"} {
		for _, width := range []int{-1, -1 << 31, api.MaxWidth + 1, 32, 64, 1<<31 - 1} {
			wantNoRuns(t, []byte(data), width, 0, api.ErrArg)
			wantNoRuns(t, []byte(data), width, 8, api.ErrArg)
		}
		for _, count := range []int{-1, -1 << 31, api.MaxCount + 1, 1<<31 - 1} {
			wantNoRuns(t, []byte(data), 0, count, api.ErrArg)
			wantNoRuns(t, []byte(data), 1, count, api.ErrArg)
		}
	}
}

func TestP5NoNumbers(t *testing.T) {
	for width := range api.MaxWidth + 1 {
		for _, data := range []string{"", "\x10\x01", "\x00", "\xff\xff\xff\xff\xff\xff"} {
			wantRuns(t, []byte(data), width, nil, 0)
		}
	}
}

func TestP5EqualOnes(t *testing.T) {
	for width := range api.MaxWidth + 1 {
		for _, times := range []int{1, 7, 8, 63, 64, 1000} {
			greatest := 1<<width - 1
			data := equalRun(greatest, width, times)
			want := slices.Repeat([]int{greatest}, times)
			wantRuns(t, data, width, want, len(data))
			wantRuns(t, append(bytes.Clone(data), 0), width, want, len(data))
			wantNoRuns(t, data, width, times+1, api.ErrRuns)
			if times > 1 {
				wantNoRuns(t, data, width, times-1, api.ErrRuns)
			}
			wantNoRuns(t, data[:len(data)-1], width, times, api.ErrRuns)
			if width%8 != 0 {
				wantNoRuns(t, equalRun(greatest+1, width, times), width, times, api.ErrRuns)
				wantNoRuns(t, equalRun(1<<((width+7)/8*8-1), width, times), width, times, api.ErrRuns)
			}
		}
	}
}

func TestP5Eights(t *testing.T) {
	r := rand.New(rand.NewSource(5))
	for width := range api.MaxWidth + 1 {
		for _, eights := range []int{1, 2, 63, 64, 100} {
			numbers := make([]int, eights*8)
			for i := range numbers {
				numbers[i] = r.Intn(1 << width)
			}
			data := eightsRun(width, numbers)
			wantRuns(t, data, width, numbers, len(data))
			wantRuns(t, append(bytes.Clone(data), 0xff), width, numbers, len(data))
			wantNoRuns(t, data, width, len(numbers)+1, api.ErrRuns)
			wantNoRuns(t, data[:len(data)-1], width, len(numbers), api.ErrRuns)
		}
	}
}

func TestP5EightsBeyondCount(t *testing.T) {
	for width := range api.MaxWidth + 1 {
		for count := 9; count <= 16; count++ {
			numbers := make([]int, 16)
			for i := range count {
				numbers[i] = 1<<width - 1
			}
			data := eightsRun(width, numbers)
			wantRuns(t, data, width, numbers[:count], len(data))
			if width > 0 {
				wantNoRuns(t, data, width, count-1, api.ErrRuns)
			}
			for i := count; i < 16 && width > 0; i++ {
				numbers[i] = 1 << (width - 1)
				wantNoRuns(t, eightsRun(width, numbers), width, count, api.ErrRuns)
				numbers[i] = 0
			}
		}
		// Eight noughts beyond are too many.
		noughts := eightsRun(width, make([]int, 16))
		for count := 1; count <= 8; count++ {
			wantNoRuns(t, noughts, width, count, api.ErrRuns)
		}
	}
}

func TestP5RunsThatMayNotBe(t *testing.T) {
	for _, c := range []struct {
		data         string
		width, count int
	}{
		{"", 0, 1}, {"", 24, 100000},
		{"\x00", 0, 1}, {"\x00\x00", 1, 1}, {"\x01", 0, 1}, {"\x01\x00", 1, 1}, {"\x00\x01\x10\x01", 1, 8}, {"\x01\x10\x01", 1, 8},
		{"\x0e\x01\x00\x01\x02\x01", 1, 8},
		{"\x80", 1, 8}, {"\x90\x00\x01", 1, 8}, {"\xff\xff\xff\xff\x10\x01", 1, 8}, {"\x80\x80\x80\x80\x80\x01\x01", 1, 8},
		{"\x0e\x01\x04\x01", 1, 8}, {"\x0e\x01", 1, 8}, {"\x0e\x01\x02", 1, 8}, {"\x0e\x01\x02\x02", 1, 8},
		{"\x02\x05\x03\x05", 1, 3},
		{"\xfe\xff\xff\xff\x0f", 0, 100000}, {"\xff\xff\xff\xff\x0f", 0, 100000}, {"\xff\xff\xff\xff\x0f", 0, 8}, {"\xff\xff\xff\xff\x0f\x00", 24, 8},
		{"\x81\x80\x80\x80\x04", 0, 8}, {"\x81\x80\x80\x80\x08", 16, 8}, {"\x80\x80\x80\x80\x08\x00", 1, 8},
	} {
		wantNoRuns(t, []byte(c.data), c.width, c.count, api.ErrRuns)
	}
}

func TestP5NoMoreRunsThanNeeded(t *testing.T) {
	// What stands behind the needed runs does not count, whatever it is.
	for _, behind := range []string{"", "\x00", "\x01", "\x10\x01", "\x80", "\xff\xff\xff\xff\xff\xff"} {
		wantRuns(t, []byte("\x02\x00\x03\x01"+behind), 1, []int{0, 1}, 4)
		wantRuns(t, []byte("\x06\x34\x12"+behind), 13, []int{0x1234, 0x1234, 0x1234}, 3)
		wantRuns(t, []byte("\x0a"+behind), 0, []int{0, 0, 0, 0, 0}, 1)
	}
}

func TestP5AsManyAsMayBe(t *testing.T) {
	data := equalRun(7, 3, api.MaxCount)
	wantRuns(t, data, 3, slices.Repeat([]int{7}, api.MaxCount), len(data))
	numbers := make([]int, api.MaxCount)
	for i := range numbers {
		numbers[i] = i * 167
	}
	data = eightsRun(24, numbers)
	wantRuns(t, data, 24, numbers, len(data))
	data = eightsRun(0, make([]int, api.MaxCount))
	wantRuns(t, data, 0, make([]int, api.MaxCount), len(data))
}

// anyRuns makes runs by chance, and their numbers.
func anyRuns(r *rand.Rand, width int) ([]byte, []int) {
	var data []byte
	var numbers []int
	for range 1 + r.Intn(10) {
		if r.Intn(2) == 0 {
			n, times := r.Intn(1<<width), 1+r.Intn(100)
			data = append(data, equalRun(n, width, times)...)
			numbers = append(numbers, slices.Repeat([]int{n}, times)...)
			continue
		}
		eights := make([]int, 8*(1+r.Intn(20)))
		for i := range eights {
			eights[i] = r.Intn(1 << width)
		}
		data = append(data, eightsRun(width, eights)...)
		numbers = append(numbers, eights...)
	}
	return data, numbers
}

func TestP5AnyRuns(t *testing.T) {
	r := rand.New(rand.NewSource(55))
	for range 3000 {
		width := r.Intn(api.MaxWidth + 1)
		data, numbers := anyRuns(r, width)
		wantRuns(t, data, width, numbers, len(data))
		wantNoRuns(t, data[:r.Intn(len(data))], width, len(numbers), api.ErrRuns)
		wantNoRuns(t, data, width, len(numbers)+1, api.ErrRuns)
		behind := make([]byte, r.Intn(9))
		r.Read(behind)
		wantRuns(t, append(bytes.Clone(data), behind...), width, numbers, len(data))
	}
}
