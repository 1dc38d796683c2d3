package sort_test

import (
	"math"
	"slices"
	"testing"

	"perigee/api"
	"perigee/sort"
)

func TestByOfNothing(t *testing.T) {
	for _, l := range [][]api.Keyed{nil, {}, make([]api.Keyed, 0, 5)} {
		if got := sort.By(l); len(got) != 0 {
			t.Errorf("7.1: By of nothing is %x", got)
		}
		if got := sort.By(sort.By(l)); len(got) != 0 {
			t.Errorf("7.2: By of By of nothing is %x", got)
		}
	}
}

func TestByByHand(t *testing.T) {
	for _, c := range []struct {
		l     []api.Keyed
		order []int // of the places in l
	}{
		{list(7), []int{0}},
		{list(0), []int{0}},
		{list(most), []int{0}},
		{list(1, 2), []int{0, 1}},
		{list(2, 1), []int{1, 0}},
		{list(3, 1, 2), []int{1, 2, 0}},
		{list(1, 2, 3, 4), []int{0, 1, 2, 3}},
		{list(4, 3, 2, 1), []int{3, 2, 1, 0}},
		{list(5, 5, 5), []int{0, 1, 2}},
		{list(most, most, most), []int{0, 1, 2}},
		{list(9, 5, 7, 5, 3, 5), []int{4, 1, 3, 5, 2, 0}},
		{list(most, 0, most, 0), []int{1, 3, 0, 2}},
		{list(1<<63, 1<<63-1, most, 0), []int{3, 1, 0, 2}},
		{list(256, 255, 0x100ff, 0x10100, 0xff00), []int{1, 0, 4, 2, 3}},
		{list(0x0102030405060708, 0x0807060504030201), []int{0, 1}},
	} {
		var want []api.Keyed
		for _, i := range c.order {
			want = append(want, c.l[i])
		}
		if got := sort.By(c.l); !slices.Equal(got, want) {
			t.Errorf("7.1: By(%x) = %x, not %x", c.l, got, want)
		}
		if got := sort.By(want); !slices.Equal(got, want) {
			t.Errorf("7.2: By(%x) = %x", want, got)
		}
		check(t, c.l)
	}
}

// The number of a body has no say, whatever it is: of one Key the first comes first.
func TestIdsHaveNoSay(t *testing.T) {
	l := []api.Keyed{of(6, math.MinInt), of(4, 9), of(6, math.MaxInt), of(4, -1), of(4, 9), of(6, 0), of(4, math.MinInt), of(4, math.MaxInt)}
	want := []api.Keyed{of(4, 9), of(4, -1), of(4, 9), of(4, math.MinInt), of(4, math.MaxInt), of(6, math.MinInt), of(6, math.MaxInt), of(6, 0)}
	if got := sort.By(l); !slices.Equal(got, want) {
		t.Errorf("7.1: By(%d) = %d, not %d", l, got, want)
	}
	check(t, l)
}

// Each list of up to five bodies with Keys out of five.
func TestEachShortList(t *testing.T) {
	keys := []uint64{0, 1, 256, 1 << 63, most}
	for size := range 6 {
		l := list(make([]uint64, size)...)
		for number := range int(math.Pow(5, float64(size))) {
			for i := range l {
				l[i].Key = keys[number%5]
				number /= 5
			}
			check(t, l)
		}
	}
}

// Keys that differ in one byte alone: each value of it thrice, among bytes that are all 0, all 255, or any.
func TestEachByte(t *testing.T) {
	var w words = 1
	for shift := 0; shift < 64; shift += 8 {
		for _, others := range []uint64{0, most, 0x0123456789abcdef} {
			var keys []uint64
			for _, i := range w.mixed(3 * 256) {
				keys = append(keys, others&^(255<<shift)|uint64(i%256)<<shift)
			}
			check(t, list(keys...))
			slices.Sort(keys)
			check(t, list(keys...))
			slices.Reverse(keys)
			check(t, list(keys...))
		}
	}
}

// Of two Keys the highest byte in which they differ counts, whatever those below it say.
func TestHigherByteCounts(t *testing.T) {
	for high := 8; high < 64; high += 8 {
		for low := 0; low < high; low += 8 {
			for _, same := range []uint64{0, 0x8080808080808080} {
				below, above := same+1<<high+9<<low, same+2<<high+3<<low
				for _, l := range [][]api.Keyed{list(above, below), list(below, above), list(above, below, above, same, below)} {
					check(t, l)
				}
				if got := sort.By(list(above, below)); got[0].Key != below || got[1].Key != above {
					t.Errorf("7.1: %x comes ahead of %x", above, below)
				}
			}
		}
	}
}

func TestEachBit(t *testing.T) {
	var keys []uint64
	for i := range 64 {
		keys = append(keys, 1<<i, most^1<<i, 1<<i-1, 1<<i)
	}
	var w words = 2
	for range 50 {
		var l []api.Keyed
		for id, i := range w.mixed(len(keys)) {
			l = append(l, of(keys[i], id))
		}
		check(t, l)
	}
}

func TestRisingAndFalling(t *testing.T) {
	for _, far := range []uint64{1, 255, 256, 257, 1 << 20, 1<<40 + 3, 1 << 54} {
		for _, size := range []int{2, 3, 100, 255, 256, 257, 1000} {
			var up, down, pairs []uint64
			for i := range uint64(size) {
				up = append(up, i*far)
				down = append(down, most-i*far)
				pairs = append(pairs, i/2*far)
			}
			check(t, list(up...))
			check(t, list(down...))
			check(t, list(pairs...))
		}
	}
}

func TestOneKeyOfMany(t *testing.T) {
	for _, key := range []uint64{0, 1, 255, 256, 1 << 63, most - 1, most, 0x0123456789abcdef} {
		for _, size := range []int{1, 2, 255, 256, 257, 5000, 70000} {
			check(t, list(slices.Repeat([]uint64{key}, size)...))
		}
	}
}

func TestByOfAny(t *testing.T) {
	var w words = 3
	for size := range 400 {
		for _, kept := range []uint64{most, 3, 0xff00, 0x8000000000000001, 0xf00f << 30, 0x7f << 57} {
			var keys []uint64
			for range size {
				keys = append(keys, w.word()>>(w.word()%64)&kept)
			}
			check(t, list(keys...))
		}
	}
}

func TestByOfMany(t *testing.T) {
	var w words = 4
	for _, kept := range []uint64{most, 0xffff, 7 << 61, 0x0101010101010101} {
		var keys []uint64
		for range 200000 {
			keys = append(keys, w.word()&kept)
		}
		check(t, list(keys...))
	}
}
