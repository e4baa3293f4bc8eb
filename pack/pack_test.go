package pack

import (
	"strings"
	"testing"

	"strata/api"
)

// What would come out beyond what was said takes no memory, however much it is.
func TestNoMoreMemoryThanWasSaid(t *testing.T) {
	for name, data := range map[string]string{
		"copies":         "\x01\x00a" + strings.Repeat("\xfe\x01\x00", 100000),
		"literals":       "\x01\x00a" + strings.Repeat("\x00b", 100000),
		"a long literal": "\x01\xf8\x3f\x42\x0f" + strings.Repeat("b", 1000000),
	} {
		packed := []byte(data)
		allocations := testing.AllocsPerRun(10, func() {
			if out, e := Unpack(packed, 1); out != nil || e != api.ErrPack {
				t.Errorf("P4: Unpack of %s: %d bytes, error %d", name, len(out), e)
			}
		})
		if allocations > 1 {
			t.Errorf("P4: Unpack of %s takes memory %v times", name, allocations)
		}
	}
}
