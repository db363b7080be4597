package manifest

import (
	"errors"
	"slices"
	"testing"

	"hayloft/api"
)

// P21.3: no disk fails at its second read alone, so this hands in reads of its own.
func TestEachSlotThatCantBeRead(t *testing.T) {
	ones := []Manifest{{Seq: 5, First: 3, Len: 40}, {Seq: 6, First: 4, Len: 41}}
	for _, sectors := range []int{api.MinSectors, 9, api.MaxSectors} {
		for _, x := range []struct {
			fails []int
			at    int
			asked []int
		}{
			{[]int{0}, 0, []int{0}},
			{[]int{sectors - 1}, sectors - 1, []int{0, sectors - 1}},
			{[]int{0, sectors - 1}, 0, []int{0}},
			{nil, -1, []int{0, sectors - 1}},
		} {
			for _, why := range []api.Errno{api.ErrDown, api.ErrArg, api.ErrNil} {
				var asked []int
				l, e := findBy(func(i int) ([]byte, api.Errno) {
					asked = append(asked, i)
					if slices.Contains(x.fails, i) {
						return nil, why
					}
					b, _ := Bytes(ones[len(asked)-1])
					return b, api.OK
				}, sectors)
				if !slices.Equal(asked, x.asked) {
					t.Errorf("of %d sectors %v are read, not %v", sectors, asked, x.asked)
				}
				if x.at < 0 {
					if e != nil || !slices.Equal(l, []Found{{1, ones[1]}, {0, ones[0]}}) {
						t.Error(l, e)
					}
					continue
				}
				var f *api.Fault
				if len(l) != 0 || !errors.Is(e, why) || !errors.As(e, &f) || f.Sector != x.at {
					t.Errorf("%v at %v of %d: %v, %v, %+v", why, x.fails, sectors, l, e, f)
				}
			}
		}
	}
}

// P21.3: the second slot is lost, whatever stands in the first one.
func TestSecondSlotThatCantBeRead(t *testing.T) {
	whole, _ := Bytes(Manifest{Seq: 5, First: 3, Len: 40})
	for _, b := range [][]byte{whole, make([]byte, api.SectorSize), whole[:9], append(slices.Clone(whole), 0), nil} {
		l, e := findBy(func(i int) ([]byte, api.Errno) {
			if i > 0 {
				return nil, api.ErrDown
			}
			return b, api.OK
		}, 8)
		var f *api.Fault
		if len(l) != 0 || !errors.Is(e, api.ErrDown) || !errors.As(e, &f) || f.Sector != 7 {
			t.Errorf("behind % x: %v, %v", b, l, e)
		}
	}
}
