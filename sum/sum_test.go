package sum

import (
	"hash/crc32"
	"math/rand"
	"testing"
)

func TestTableHoldsWhatShiftsMake(t *testing.T) {
	for i, n := range crc32.IEEETable {
		if table[i] != n || shiftByte(uint32(i)) != n {
			t.Errorf("P3: of the byte %02x: %08x in the table, %08x by shifts, want %08x", i, table[i], shiftByte(uint32(i)), n)
		}
	}
}

func TestBothWaysTellOneSum(t *testing.T) {
	r := rand.New(rand.NewSource(1))
	for size := range 600 {
		data := make([]byte, size)
		r.Read(data)
		want := crc32.ChecksumIEEE(data)
		if worked, told, checked := Of(data), byTable(data), Checked(data); worked != want || told != want || checked != want {
			t.Errorf("P3: of %x: %08x by shifts, %08x by the table, %08x checked, want %08x", data, worked, told, checked, want)
		}
	}
}

// The answer is worked out by a function: a table that holds something else
// does not change it.
func TestTheTableDoesNotChangeASum(t *testing.T) {
	whole := table
	defer func() { table = whole }()
	data := []byte("123456789")
	for i := range table {
		table[i] = ^table[i]
		if worked, checked := Of(data), Checked(data); worked != 0xcbf43926 || checked != 0xcbf43926 {
			t.Errorf("P3: with another entry %02x: %08x by shifts, %08x checked", i, worked, checked)
		}
	}
	if told := byTable(data); told == 0xcbf43926 {
		t.Errorf("P3: the way through the table does not read it")
	}
}
