package fix_test

import (
	"math"
	"math/big"
	"testing"

	"perigee/api"
	"perigee/fix"
)

func TestSqrtByHand(t *testing.T) {
	for _, c := range []row{
		{a: of(0, 0), want: of(0, 0)},
		{a: of(0, 1), want: of(0, 1<<32)},
		{a: of(0, 2), want: of(0, 0x16a09e667)},
		{a: of(0, 1<<62), want: of(0, 1<<63)},
		{a: of(1, 0), want: of(1, 0)},
		{a: of(0, most), want: of(0, most)},
		{a: of(1, 1), want: of(1, 0)},
		{a: of(1, 2), want: of(1, 0)},
		{a: of(1, 3), want: of(1, 1)},
		{a: of(2, 0), want: of(1, 0x6a09e667f3bcc908)},
		{a: of(2, 1<<62), want: of(1, 1<<63)},
		{a: of(4, 0), want: of(2, 0)},
		{a: of(3, most), want: of(1, most)},
		{a: of(99, 0), want: of(9, 0xf32af77f09b38875)},
		{a: of(1<<62, 0), want: of(1<<31, 0)},
		{a: of(1<<62-1, most), want: of(1<<31-1, most)},
		{a: greatest, want: of(3037000499, 0xf9de6484597d89b3)},
		{a: of(-1, most), e: api.ErrArg},
		{a: of(-1, 0), e: api.ErrArg},
		{a: of(-4, 0), e: api.ErrArg},
		{a: lowest, e: api.ErrArg},
	} {
		if n, e := fix.Sqrt(c.a); n != c.want || e != c.e {
			t.Errorf("2.2: Sqrt(%x) = %x, %d", c.a, n, e)
		}
	}
}

func checkSqrt(t *testing.T, a api.Fix) {
	t.Helper()
	want, wrong := api.Fix{}, api.ErrArg
	if n := units(a); n.Sign() >= 0 {
		want, wrong = ofUnits(n.Sqrt(n.Lsh(n, 64)))
	}
	if n, e := fix.Sqrt(a); n != want || e != wrong {
		t.Fatalf("2.2: Sqrt(%x) = %x, %d, not %x, %d", a, n, e, want, wrong)
	}
}

func TestSqrtNextToSquares(t *testing.T) {
	var w words = 5
	for n := range 4000 {
		// Of s times s parts of 2^64 the root is a number, s times 2^32; of most others it lies between two.
		s := new(big.Int).SetUint64(w.word() >> (1 + n%63))
		around(s.Mul(s, s), func(a api.Fix) { checkSqrt(t, a) })
		s = units(w.fix())
		s.Rsh(s.Abs(s), 32)
		around(s.Rsh(s.Mul(s, s), 64), func(a api.Fix) { checkSqrt(t, a) })
	}
	for _, a := range edges() {
		checkSqrt(t, a)
	}
}

func TestHalf(t *testing.T) {
	for _, c := range []row{
		{a: of(0, 0), want: of(0, 0)},
		{a: of(0, 1), want: of(0, 1)},
		{a: of(-1, most), want: of(-1, most)},
		{a: of(0, 2), want: of(0, 1)},
		{a: of(-1, most-1), want: of(-1, most)},
		{a: of(0, 3), want: of(0, 2)},
		{a: of(-1, most-2), want: of(-1, most-1)},
		{a: of(1, 0), want: of(0, 1<<63)},
		{a: of(-1, 0), want: of(-1, 1<<63)},
		{a: of(7, 0), want: of(3, 1<<63)},
		{a: of(1, most), want: of(1, 0)},
		{a: greatest, want: of(1<<62, 0)},
		{a: lowest, want: of(-1<<62, 0)},
		{a: of(math.MinInt64, 2), want: of(-1<<62, 1)},
	} {
		if n := fix.Half(c.a); n != c.want {
			t.Errorf("2.2: Half(%x) = %x", c.a, n)
		}
	}
	rows(func(a, _ api.Fix) {
		if want, _ := ofUnits(near(units(a), big.NewInt(2))); fix.Half(a) != want {
			t.Fatalf("2.2: Half(%x) = %x", a, fix.Half(a))
		}
	})
}

func TestRoundAndFloorByHand(t *testing.T) {
	for _, c := range []struct {
		a            api.Fix
		round, floor int
	}{
		{of(0, 0), 0, 0},
		{of(0, 1), 0, 0},
		{of(0, 1<<63-1), 0, 0},
		{of(0, 1<<63), 1, 0},
		{of(0, most), 1, 0},
		{of(1, 0), 1, 1},
		{of(1, 1), 1, 1},
		{of(2, 1<<63-1), 2, 2},
		{of(2, 1<<63), 3, 2},
		{of(-1, most), 0, -1},
		{of(-1, 1<<63+1), 0, -1},
		{of(-1, 1<<63), -1, -1},
		{of(-1, 1<<63-1), -1, -1},
		{of(-1, 0), -1, -1},
		{of(-2, most), -1, -2},
		{of(-3, 1<<63+1), -2, -3},
		{of(-3, 1<<63), -3, -3},
		{of(math.MaxInt64-1, 1<<63), math.MaxInt64, math.MaxInt64 - 1},
		{of(math.MaxInt64, 0), math.MaxInt64, math.MaxInt64},
		{of(math.MaxInt64, 1<<63-1), math.MaxInt64, math.MaxInt64},
		{of(math.MaxInt64, 1<<63), math.MaxInt64, math.MaxInt64},
		{greatest, math.MaxInt64, math.MaxInt64},
		{of(math.MinInt64+1, 1<<63+1), -math.MaxInt64 + 1, math.MinInt64 + 1},
		{of(math.MinInt64+1, 1<<63), -math.MaxInt64, math.MinInt64 + 1},
		{of(math.MinInt64+1, 0), -math.MaxInt64, math.MinInt64 + 1},
		{of(math.MinInt64, 1<<63+1), -math.MaxInt64, math.MinInt64},
		{of(math.MinInt64, 1<<63), -math.MaxInt64, math.MinInt64},
		{lowest, -math.MaxInt64, math.MinInt64},
	} {
		if fix.Round(c.a) != c.round || fix.Floor(c.a) != c.floor {
			t.Errorf("2.2: of %x: Round %d, Floor %d", c.a, fix.Round(c.a), fix.Floor(c.a))
		}
	}
}

func TestRoundAndFloorOfAny(t *testing.T) {
	end := big.NewInt(math.MaxInt64)
	rows(func(a, _ api.Fix) {
		n := near(units(a), power(64))
		if n.CmpAbs(end) > 0 {
			n.Mul(end, big.NewInt(int64(n.Sign())))
		}
		if got := fix.Round(a); int64(got) != n.Int64() {
			t.Fatalf("2.2: Round(%x) = %d", a, got)
		}
		if got := fix.Floor(a); int64(got) != new(big.Int).Div(units(a), power(64)).Int64() {
			t.Fatalf("2.2: Floor(%x) = %d", a, got)
		}
	})
}

// Of each call: which signs of what goes in, and of what comes out, are turned about together.
func TestTurnedAbout(t *testing.T) {
	turns := []struct {
		name    string
		a, b, n bool
	}{
		{"Add", true, true, true}, {"Sub", true, true, true},
		{"Mul", true, false, true}, {"Mul", false, true, true}, {"Mul", true, true, false},
		{"Div", true, false, true}, {"Div", false, true, true}, {"Div", true, true, false},
	}
	l := calls()
	for _, c := range turns {
		rows(func(a, b api.Fix) {
			n, e := l[c.name](a, b)
			m, f := l[c.name](turned(a, c.a), turned(b, c.b))
			if e != f || m != turned(n, c.n) {
				t.Fatalf("2.3: %s(%x, %x) = %x, %d, but turned about %x, %d", c.name, a, b, n, e, m, f)
			}
		})
	}
	for _, n := range []int{0, 1, 5, 1 << 32, math.MaxInt64 - 1, math.MaxInt64} {
		if fix.Int(-n) != neg(fix.Int(n)) {
			t.Errorf("2.3: Int(%d) = %x", -n, fix.Int(-n))
		}
	}
	rows(func(a, b api.Fix) {
		c, d := neg(a), neg(b)
		if fix.Half(c) != neg(fix.Half(a)) || fix.Round(c) != -fix.Round(a) || fix.Neg(c) != neg(fix.Neg(a)) || fix.Cmp(c, d) != -fix.Cmp(a, b) {
			t.Fatalf("2.3: Half, Round, Neg or Cmp of %x, %x", a, b)
		}
	})
}

func turned(a api.Fix, about bool) api.Fix {
	if about {
		return neg(a)
	}
	return a
}

// Of the least number nothing is said but of May and Cmp; still every call ends, tells the same again, and nothing beside an error.
func TestLeastOfAll(t *testing.T) {
	for _, a := range append(edges(), least) {
		for _, b := range []api.Fix{a, least} {
			for name, call := range calls() {
				for _, c := range [][2]api.Fix{{b, least}, {least, b}} {
					n, e := call(c[0], c[1])
					m, f := call(c[0], c[1])
					if n != m || e != f || e != api.OK && n != (api.Fix{}) {
						t.Errorf("R1, R4: %s(%x, %x) = %x, %d", name, c[0], c[1], n, e)
					}
				}
			}
		}
	}
	if n, e := fix.Sqrt(least); e == api.OK || n != (api.Fix{}) {
		t.Errorf("R4: Sqrt of the least of all: %x, %d", n, e)
	}
	fix.Neg(least)
	fix.Half(least)
	fix.Round(least)
	fix.Floor(least)
}
