package morton_test

import (
	"math"
	"testing"

	"perigee/api"
	"perigee/morton"
)

// row is a number, and its cell on one axis.
type row struct {
	a    api.Fix
	cell uint32
}

// within are numbers in the cells, by hand, and beyond are numbers out of them.
func within() []row {
	return []row{
		{n(0), 1 << 31}, {of(0, 1), 1 << 31}, {of(0, 1<<63), 1 << 31}, {of(0, most), 1 << 31},
		{of(-1, most), 1<<31 - 1}, {of(-1, 1<<63), 1<<31 - 1}, {of(-1, 1), 1<<31 - 1}, {n(-1), 1<<31 - 1}, {of(-2, most), 1<<31 - 2},
		{n(1), 1<<31 + 1}, {of(1, 1), 1<<31 + 1}, {of(4, most), 1<<31 + 4}, {n(5), 1<<31 + 5}, {of(5, 7), 1<<31 + 5},
		{n(-5), 1<<31 - 5}, {of(-5, 1), 1<<31 - 5}, {of(-6, most), 1<<31 - 6},
		{n(api.MaxPlace), 3 << 30}, {n(-api.MaxPlace), 1 << 30},
		{n(-1 << 31), 0}, {of(-1<<31, 1), 0}, {of(-1<<31, most), 0}, {n(-1<<31 + 1), 1},
		{of(1<<31-2, most), mostWord - 1}, {n(1<<31 - 1), mostWord}, {of(1<<31-1, 1), mostWord}, {of(1<<31-1, most), mostWord},
	}
}

func beyond() []row {
	return []row{
		{of(-1<<31-1, most), 0}, {of(-1<<31-1, 1), 0}, {n(-1<<31 - 1), 0}, {n(-1 << 32), 0}, {n(-1<<32 - 1), 0}, {n(-1<<32 + 5), 0}, {n(-3 << 31), 0}, {n(-1 << 62), 0},
		{n(1 << 31), mostWord}, {of(1<<31, 1), mostWord}, {of(1<<31, most), mostWord}, {n(1<<31 + 1), mostWord}, {n(1 << 32), mostWord}, {n(1<<32 + 5), mostWord}, {n(3 << 31), mostWord}, {n(1 << 62), mostWord},
		// Of these the sum with 2^31 is the last int, or beyond the ints.
		{n(math.MaxInt64 - 1<<31), mostWord}, {n(math.MaxInt64 - 1<<31 + 1), mostWord}, {n(math.MaxInt64 - 1<<31 + 6), mostWord},
		{n(math.MaxInt64), mostWord}, {greatest, mostWord},
		{n(math.MinInt64 + 1), 0}, {of(math.MinInt64, most), 0}, {lowest, 0},
	}
}

// checkCell asks for v's Cell, and for its key, twice.
func checkCell(t *testing.T, v api.Vec, wantX, wantY uint32) {
	t.Helper()
	for range 2 {
		if x, y := morton.Cell(v); x != wantX || y != wantY {
			t.Fatalf("6.1: Cell(%x) = %x, %x, not %x, %x", v, x, y, wantX, wantY)
		}
		if key := morton.Of(v); key != keyOf(wantX, wantY) {
			t.Fatalf("6.1: Of(%x) = %x, not %x", v, key, keyOf(wantX, wantY))
		}
	}
}

// Each with each: both within, both beyond, X beyond and Y within, and the other way round.
func TestCellByHand(t *testing.T) {
	l := append(within(), beyond()...)
	for _, x := range l {
		for _, y := range l {
			checkCell(t, at(x.a, y.a), x.cell, y.cell)
		}
	}
}

func TestOfByHand(t *testing.T) {
	for _, c := range []struct {
		v   api.Vec
		key uint64
	}{
		{api.Vec{}, 3 << 62},
		{at(n(3), n(0)), 3<<62 + 5}, {at(n(0), n(3)), 3<<62 + 10}, {at(of(5, most), of(6, 1)), 3<<62 + 0x39},
		{at(n(-1), n(-1)), 1<<62 - 1}, {at(n(-1), n(0)), 1<<63 + evens>>2}, {at(n(0), n(-1)), 1<<62 + odds>>2},
		{at(n(-1<<31), n(-1<<31)), 0}, {at(lowest, lowest), 0}, {at(n(-1<<31+3), lowest), 5},
		{at(n(1<<31-1), n(1<<31-1)), most}, {at(greatest, greatest), most},
		{at(greatest, lowest), evens}, {at(lowest, greatest), odds}, {at(n(1<<31), n(-1<<31-1)), evens}, {at(n(-1<<31-1), n(1<<31)), odds},
	} {
		if key := morton.Of(c.v); key != c.key {
			t.Errorf("6.1: Of(%x) = %x, not %x", c.v, key, c.key)
		}
	}
}

func TestCellAtEdges(t *testing.T) {
	l := numbers()
	for _, x := range l {
		for _, y := range l {
			checkCell(t, at(x, y), cellOf(x), cellOf(y))
		}
	}
}

func TestCellOfAny(t *testing.T) {
	var w words = 3
	var in, out int
	for range 30000 {
		for _, v := range []api.Vec{at(w.fix(), w.fix()), at(w.near(), w.near()), at(w.near(), w.fix())} {
			x, y := cellOf(v.X), cellOf(v.Y)
			checkCell(t, v, x, y)
			if x%mostWord == 0 || y%mostWord == 0 {
				out++
			} else {
				in++
			}
		}
	}
	if in < 10000 || out < 10000 {
		t.Errorf("6.1: %d in the cells, %d at their ends or out of them: too few to say anything", in, out)
	}
}

// A cell is one wide: what is behind the point doesn't count, and the next whole number is the next cell.
func TestCellsAreOneWide(t *testing.T) {
	var w words = 4
	for range 10000 {
		whole := int64(int32(w.word()))
		x, y := morton.Cell(at(of(whole, w.word()), of(whole, 0)))
		if x != y || int64(x) != whole+1<<31 {
			t.Fatalf("6.1: of %d the cells are %x, %x", whole, x, y)
		}
	}
}

// Of what may not be nothing is said; still every call ends, tells the same again, and Of tells the Key of Cell.
func TestLeastOfAll(t *testing.T) {
	for _, a := range append(numbers(), least) {
		for _, v := range []api.Vec{at(least, a), at(a, least)} {
			x, y := morton.Cell(v)
			if c, d := morton.Cell(v); c != x || d != y {
				t.Errorf("R1: Cell(%x) = %x, %x, then %x, %x", v, x, y, c, d)
			}
			if morton.Of(v) != morton.Of(v) || morton.Of(v) != keyOf(x, y) {
				t.Errorf("R1: Of(%x) = %x, then %x, where Cell is %x, %x", v, morton.Of(v), morton.Of(v), x, y)
			}
		}
	}
}
