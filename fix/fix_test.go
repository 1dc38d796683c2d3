package fix_test

import (
	"math"
	"math/big"
	"testing"

	"perigee/api"
	"perigee/fix"
)

func TestMay(t *testing.T) {
	if fix.May(least) {
		t.Error("2.1: May of the least of all")
	}
	for _, a := range append(edges(), lowest, greatest) {
		if !fix.May(a) {
			t.Errorf("2.1: May(%x)", a)
		}
	}
}

func TestInt(t *testing.T) {
	for _, c := range []struct {
		n  int
		hi int64
	}{
		{0, 0}, {1, 1}, {-1, -1}, {7, 7}, {-7, -7}, {1 << 32, 1 << 32}, {-1 << 32, -1 << 32},
		{math.MaxInt64, math.MaxInt64},
		{math.MinInt64 + 2, math.MinInt64 + 2},
		{math.MinInt64 + 1, math.MinInt64 + 1},
		{math.MinInt64, math.MinInt64 + 1},
	} {
		if a := fix.Int(c.n); a != of(c.hi, 0) {
			t.Errorf("2.1: Int(%d) = %x", c.n, a)
		}
	}
}

func TestNeg(t *testing.T) {
	for _, c := range [][2]api.Fix{
		{of(0, 0), of(0, 0)},
		{of(0, 1), of(-1, most)},
		{of(1, 0), of(-1, 0)},
		{of(0, 1<<63), of(-1, 1<<63)},
		{of(3, 5), of(-4, most-4)},
		{greatest, lowest},
		{of(math.MaxInt64, 0), of(math.MinInt64+1, 0)},
	} {
		if fix.Neg(c[0]) != c[1] || fix.Neg(c[1]) != c[0] {
			t.Errorf("2.1: Neg(%x) = %x, Neg(%x) = %x", c[0], fix.Neg(c[0]), c[1], fix.Neg(c[1]))
		}
	}
	for _, a := range edges() {
		if sum, e := fix.Add(a, fix.Neg(a)); sum != (api.Fix{}) || e != api.OK || fix.Neg(a) != neg(a) {
			t.Errorf("2.1: Neg(%x) = %x, and both are %x, %d", a, fix.Neg(a), sum, e)
		}
	}
}

func TestCmp(t *testing.T) {
	rising := []api.Fix{least, lowest, of(math.MinInt64, most), of(math.MinInt64+1, 0), of(-2, most), of(-1, 0), of(-1, 1), of(-1, 1<<63), of(-1, most), {}, of(0, 1), of(0, 1<<63), of(0, most), of(1, 0), of(1, 1), of(math.MaxInt64, 0), greatest}
	for i, a := range rising {
		for j, b := range rising {
			want := 0
			if i < j {
				want = -1
			} else if i > j {
				want = 1
			}
			if got := fix.Cmp(a, b); got != want {
				t.Errorf("2.1: Cmp(%x, %x) = %d", a, b, got)
			}
		}
	}
	rows(func(a, b api.Fix) {
		if got := fix.Cmp(a, b); got != units(a).Cmp(units(b)) {
			t.Fatalf("2.1: Cmp(%x, %x) = %d", a, b, got)
		}
	})
}

// row is a call by hand.
type row struct {
	a, b, want api.Fix
	e          api.Errno
}

func checkRows(t *testing.T, name string, l []row) {
	t.Helper()
	for _, c := range l {
		if n, e := calls()[name](c.a, c.b); n != c.want || e != c.e {
			t.Errorf("2.2: %s(%x, %x) = %x, %d", name, c.a, c.b, n, e)
		}
	}
}

func TestAddByHand(t *testing.T) {
	checkRows(t, "Add", []row{
		{of(0, 0), of(0, 0), of(0, 0), api.OK},
		{of(1, 1<<63), of(2, 1<<63), of(4, 0), api.OK},
		{of(-1, most), of(0, 1), of(0, 0), api.OK},
		{of(5, 0), of(-7, 0), of(-2, 0), api.OK},
		{greatest, of(0, 0), greatest, api.OK},
		{greatest, of(0, 1), of(0, 0), api.ErrOver},
		{greatest, of(-1, most), of(math.MaxInt64, most-1), api.OK},
		{greatest, lowest, of(0, 0), api.OK},
		{greatest, greatest, of(0, 0), api.ErrOver},
		{of(math.MaxInt64, most-1), of(0, 1), greatest, api.OK},
		{of(1<<62, 0), of(1<<62, 0), of(0, 0), api.ErrOver},
		{of(1<<62-1, most), of(1<<62, 0), greatest, api.OK},
		{lowest, of(0, 0), lowest, api.OK},
		{of(math.MinInt64, 2), of(-1, most), lowest, api.OK},
		{lowest, of(-1, most), of(0, 0), api.ErrOver},
		{of(-1<<62, 0), of(-1<<62, 0), of(0, 0), api.ErrOver},
		{of(-1<<62, 0), of(-1<<62, 1), lowest, api.OK},
		{lowest, lowest, of(0, 0), api.ErrOver},
	})
}

func TestSubByHand(t *testing.T) {
	checkRows(t, "Sub", []row{
		{of(0, 0), of(0, 0), of(0, 0), api.OK},
		{of(4, 0), of(2, 1<<63), of(1, 1<<63), api.OK},
		{of(0, 0), of(0, 1), of(-1, most), api.OK},
		{of(5, 0), of(7, 0), of(-2, 0), api.OK},
		{greatest, greatest, of(0, 0), api.OK},
		{of(0, 0), lowest, greatest, api.OK},
		{of(0, 1), lowest, of(0, 0), api.ErrOver},
		{of(0, 0), greatest, lowest, api.OK},
		{of(-1, most), greatest, of(0, 0), api.ErrOver},
		{of(-2, 0), greatest, of(0, 0), api.ErrOver},
		{of(-1, most), lowest, of(math.MaxInt64, most-1), api.OK},
		{of(1<<62, 0), of(-1<<62, 0), of(0, 0), api.ErrOver},
		{of(1<<62, 0), of(-1<<62, 1), greatest, api.OK},
		{of(-1<<62, 0), of(1<<62, 0), of(0, 0), api.ErrOver},
		{of(-1<<62, 1), of(1<<62, 0), lowest, api.OK},
		{greatest, lowest, of(0, 0), api.ErrOver},
		{lowest, greatest, of(0, 0), api.ErrOver},
		{lowest, lowest, of(0, 0), api.OK},
	})
}

func TestMulByHand(t *testing.T) {
	checkRows(t, "Mul", []row{
		{of(0, 0), greatest, of(0, 0), api.OK},
		{of(0, 0), lowest, of(0, 0), api.OK},
		{of(6, 0), of(-7, 0), of(-42, 0), api.OK},
		{of(-2, 1<<63), of(-2, 1<<63), of(2, 1<<62), api.OK},
		{of(1, 0), greatest, greatest, api.OK},
		{of(-1, 0), greatest, lowest, api.OK},
		{of(-1, 0), lowest, greatest, api.OK},
		{of(0, 1), of(0, 1<<63), of(0, 1), api.OK},
		{of(0, 1), of(0, 1<<63-1), of(0, 0), api.OK},
		{of(-1, most), of(0, 1<<63), of(-1, most), api.OK},
		{of(-1, most), of(0, 1<<63-1), of(0, 0), api.OK},
		{of(0, 3), of(0, 1<<63), of(0, 2), api.OK},
		{of(-1, most-2), of(0, 1<<63), of(-1, most-1), api.OK},
		{of(1<<31, 0), of(1<<31, 0), of(1<<62, 0), api.OK},
		{of(1<<32, 0), of(1<<31, 0), of(0, 0), api.ErrOver},
		{of(1<<32, 0), of(1<<31-1, most), of(math.MaxInt64, most-1<<32+1), api.OK},
		{of(-1<<32, 0), of(1<<31, 0), of(0, 0), api.ErrOver},
		{of(-1<<32, 0), of(-1<<31, 0), of(0, 0), api.ErrOver},
		// 2^63 less half of the least part: as near to 2^63.
		{of(1, 1), of(math.MaxInt64, 1<<63), of(0, 0), api.ErrOver},
		{of(-2, most), of(math.MaxInt64, 1<<63), of(0, 0), api.ErrOver},
		{of(1, 1), of(math.MaxInt64, 1<<63-1), of(math.MaxInt64, most-1), api.OK},
		// 2^64 less half of the least part: rounded, it is what 128 bits have no room for.
		{of(3, 1<<63), of(0x4924924924924924, 0x9249249249249249), of(0, 0), api.ErrOver},
		{greatest, greatest, of(0, 0), api.ErrOver},
		{lowest, lowest, of(0, 0), api.ErrOver},
	})
}

func TestDivByHand(t *testing.T) {
	checkRows(t, "Div", []row{
		{of(1, 0), of(3, 0), of(0, 0x5555555555555555), api.OK},
		{of(2, 0), of(3, 0), of(0, 0xaaaaaaaaaaaaaaab), api.OK},
		{of(-2, 0), of(3, 0), of(-1, 0x5555555555555555), api.OK},
		{of(42, 0), of(-7, 0), of(-6, 0), api.OK},
		{of(0, 0), of(5, 0), of(0, 0), api.OK},
		{of(0, 0), lowest, of(0, 0), api.OK},
		{of(0, 0), of(0, 0), of(0, 0), api.ErrZero},
		{of(1, 0), of(0, 0), of(0, 0), api.ErrZero},
		{greatest, of(0, 0), of(0, 0), api.ErrZero},
		{lowest, of(0, 0), of(0, 0), api.ErrZero},
		{of(0, 1), of(2, 0), of(0, 1), api.OK},
		{of(-1, most), of(2, 0), of(-1, most), api.OK},
		{of(0, 1), of(2, 1), of(0, 0), api.OK},
		{of(-1, most), of(2, 1), of(0, 0), api.OK},
		{of(0, 3), of(2, 0), of(0, 2), api.OK},
		{of(0, 3), of(-2, 0), of(-1, most-1), api.OK},
		{of(0, 5), of(-2, 0), of(-1, most-2), api.OK},
		{of(0, 1<<63), of(0, 1), of(0, 0), api.ErrOver},
		{of(0, 1<<63-1), of(0, 1), of(math.MaxInt64, 0), api.OK},
		{of(0, 1<<63), of(-1, most), of(0, 0), api.ErrOver},
		{of(0, 1<<63-1), of(-1, most), of(math.MinInt64+1, 0), api.OK},
		{of(math.MaxInt64, 1<<63), of(0, most), of(0, 0), api.ErrOver},
		{of(math.MaxInt64, 1<<63-1), of(0, most), greatest, api.OK},
		{of(math.MaxInt64, 1<<63-1), of(-1, 1), lowest, api.OK},
		{greatest, of(0, 1), of(0, 0), api.ErrOver},
		{greatest, of(1, 0), greatest, api.OK},
		{greatest, of(-1, 0), lowest, api.OK},
		{greatest, greatest, of(1, 0), api.OK},
		{greatest, lowest, of(-1, 0), api.OK},
		{of(0, 1), greatest, of(0, 0), api.OK},
	})
}

// exact is what a call of two numbers is without limits; nil: it is not.
func exact(name string, a, b *big.Int) *big.Int {
	n := new(big.Int)
	switch name {
	case "Add":
		return n.Add(a, b)
	case "Sub":
		return n.Sub(a, b)
	case "Mul":
		return near(n.Mul(a, b), power(64))
	}
	if b.Sign() == 0 {
		return nil
	}
	return near(n.Lsh(a, 64), b)
}

func checkExact(t *testing.T, name string, a, b api.Fix) {
	t.Helper()
	want, wrong := api.Fix{}, api.ErrZero
	if n := exact(name, units(a), units(b)); n != nil {
		want, wrong = ofUnits(n)
	}
	if n, e := calls()[name](a, b); n != want || e != wrong {
		t.Fatalf("2.2: %s(%x, %x) = %x, %d, not %x, %d", name, a, b, n, e, want, wrong)
	}
}

func TestTwoOfAny(t *testing.T) {
	for name := range calls() {
		rows(func(a, b api.Fix) { checkExact(t, name, a, b) })
	}
}

// around calls each with n, and with what is next to it, on both sides of nought, where that may be.
func around(n *big.Int, each func(a api.Fix)) {
	for i := int64(-2); i <= 2; i++ {
		m := new(big.Int).Add(n, big.NewInt(i))
		for range 2 {
			if a, e := ofUnits(m); e == api.OK {
				each(a)
			}
			m.Neg(m)
		}
	}
}

func TestNextToTheEnd(t *testing.T) {
	var w words = 2
	for range 5000 {
		a := w.fix()
		if a == (api.Fix{}) {
			continue
		}
		n := units(a)
		around(new(big.Int).Sub(power(127), n), func(b api.Fix) {
			checkExact(t, "Add", a, b)
			checkExact(t, "Sub", a, b)
		})
		around(new(big.Int).Quo(power(191), n), func(b api.Fix) { checkExact(t, "Mul", a, b) })
		around(new(big.Int).Lsh(n, 63), func(b api.Fix) { checkExact(t, "Div", b, a) })
	}
}

// Of an odd number and another, times 2^63 over 2^64, a half is left.
func TestProductsNextToHalves(t *testing.T) {
	var w words = 3
	for range 3000 {
		up := uint(w.word() % 64)
		odd, even := w.word()>>1|1, (w.word()>>(2+up)|1)<<up
		a := new(big.Int).Lsh(new(big.Int).SetUint64(odd), 63-up)
		around(a, func(a api.Fix) {
			checkExact(t, "Mul", a, of(0, even))
			checkExact(t, "Mul", a, neg(of(0, even)))
		})
	}
}

// An odd number of m, over 2^65 of m, times 2^64, leaves a half.
func TestQuotientsNextToHalves(t *testing.T) {
	var w words = 4
	for range 3000 {
		m, odd := w.word()>>(2+w.word()%62), w.word()|1
		b := of(int64(2*m), 0)
		a := new(big.Int).Mul(new(big.Int).SetUint64(m), new(big.Int).SetUint64(odd))
		around(a, func(a api.Fix) {
			checkExact(t, "Div", a, b)
			checkExact(t, "Div", a, neg(b))
		})
	}
}
