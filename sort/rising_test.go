package sort_test

import (
	"testing"

	"perigee/api"
	"perigee/sort"
)

func TestRisingByHand(t *testing.T) {
	for _, c := range []struct {
		l    []api.Keyed
		want bool
	}{
		{nil, true}, {[]api.Keyed{}, true}, {make([]api.Keyed, 0, 3), true},
		{list(0), true}, {list(5), true}, {list(most), true},
		{list(1, 2), true}, {list(2, 1), false}, {list(2, 2), true}, {list(0, 0, 0), true}, {list(most, most), true},
		{list(0, most), true}, {list(most, 0), false}, {list(most-1, most), true}, {list(most, most-1), false},
		{list(1<<63-1, 1<<63), true}, {list(1<<63, 1<<63-1), false}, {list(1, 1<<63), true}, {list(1<<63, 1), false},
		{list(255, 256), true}, {list(256, 255), false},
		{list(1, 3, 2), false}, {list(2, 1, 3), false}, {list(1, 3, 3), true}, {list(1, 1, 3), true}, {list(1, 3, 1), false}, {list(3, 1, 3), false},
		{[]api.Keyed{of(1, 9), of(1, 4), of(1, -7), of(2, -8)}, true}, {[]api.Keyed{of(2, 1), of(1, 2)}, false},
	} {
		for range 2 {
			if got := sort.Rising(c.l); got != c.want {
				t.Errorf("7.1: Rising(%x) = %v", c.l, got)
			}
		}
		check(t, c.l)
	}
}

// One Key alone is below the one ahead, at each place of lists of each length, in each bit.
func TestOneFalls(t *testing.T) {
	for size := 2; size < 12; size++ {
		for at := 1; at < size; at++ {
			for bit := range 64 {
				keys := make([]uint64, size)
				for i := range at {
					keys[i] = 1 << bit
				}
				if l := list(keys...); sort.Rising(l) {
					t.Fatalf("7.1: Rising(%x) = true", l)
				}
				for i := range keys {
					keys[i] ^= 1 << bit
				}
				if l := list(keys...); !sort.Rising(l) {
					t.Fatalf("7.1: Rising(%x) = false", l)
				}
			}
		}
	}
}

// Keys between two, in each order: Rising holds where neither pair falls.
func TestRisingAtEdges(t *testing.T) {
	keys := []uint64{0, 1, 2, 255, 256, 1<<32 - 1, 1 << 32, 1<<63 - 1, 1 << 63, 1<<63 + 1, most - 1, most}
	for i, a := range keys {
		for j, b := range keys {
			for k, c := range keys {
				if l := list(a, b, c); sort.Rising(l) != (i <= j && j <= k) {
					t.Fatalf("7.1: Rising(%x) = %v", l, sort.Rising(l))
				}
			}
		}
	}
}
