package limb_test

import (
	"math"
	"math/big"
	"testing"

	"perigee/api"
	"perigee/limb"
)

func TestShiftsByHand(t *testing.T) {
	a := four(1, 2, 3, 4)
	for _, c := range []struct {
		n        int
		shl, shr api.Four
	}{
		{0, a, a},
		{1, four(2, 4, 6, 8), four(0, 1<<63+1, 1, 1<<63+2)},
		{64, four(2, 3, 4, 0), four(0, 1, 2, 3)},
		{128, four(3, 4, 0, 0), four(0, 0, 1, 2)},
		{192, four(4, 0, 0, 0), four(0, 0, 0, 1)},
		{193, four(8, 0, 0, 0), four(0, 0, 0, 0)},
		{255, four(0, 0, 0, 0), four(0, 0, 0, 0)},
	} {
		if l, r := limb.Shl(a, c.n), limb.Shr(a, c.n); l != c.shl || r != c.shr {
			t.Errorf("1.2: by %d: Shl %x, Shr %x", c.n, l, r)
		}
	}
	if limb.Shl(mostFour, 255) != four(1<<63, 0, 0, 0) || limb.Shr(mostFour, 255) != four(0, 0, 0, 1) {
		t.Error("1.2: by 255")
	}
}

func TestShiftsBelowNought(t *testing.T) {
	for _, n := range []int{-1, -2, -63, -64, -65, -255, -256, -257, math.MinInt32, math.MinInt64 + 1, math.MinInt64} {
		for _, a := range []api.Four{{}, four(1, 2, 3, 4), mostFour} {
			if limb.Shl(a, n) != a || limb.Shr(a, n) != a {
				t.Errorf("1.2: %x by %d: Shl %x, Shr %x", a, n, limb.Shl(a, n), limb.Shr(a, n))
			}
		}
	}
}

func TestShiftsBeyondTheEnd(t *testing.T) {
	for _, n := range []int{256, 257, 319, 320, 512, 1 << 32, 1<<32 + 1, 1 << 40, math.MaxInt64} {
		for _, a := range []api.Four{{}, four(1, 2, 3, 4), mostFour} {
			if limb.Shl(a, n) != (api.Four{}) || limb.Shr(a, n) != (api.Four{}) {
				t.Errorf("1.2: %x by %d: Shl %x, Shr %x", a, n, limb.Shl(a, n), limb.Shr(a, n))
			}
		}
	}
}

func TestShiftsOfAny(t *testing.T) {
	var w words = 4
	for n := range 256 {
		for range 50 {
			a := w.four()
			l := new(big.Int).Lsh(bigFour(a), uint(n))
			if got := limb.Shl(a, n); bigFour(got).Cmp(l.Mod(l, power(256))) != 0 {
				t.Fatalf("1.2: Shl(%x, %d) = %x", a, n, got)
			}
			if got := limb.Shr(a, n); bigFour(got).Cmp(new(big.Int).Rsh(bigFour(a), uint(n))) != 0 {
				t.Fatalf("1.2: Shr(%x, %d) = %x", a, n, got)
			}
		}
	}
}

func TestCmp(t *testing.T) {
	rising := []api.Four{{}, four(0, 0, 0, 1), four(0, 0, 0, most), four(0, 0, 1, 0), four(0, 0, most, most), four(0, 1, 0, 0), four(0, 1<<63, 0, 0), four(1, 0, 0, 0), four(1<<63, 0, 0, 0), four(most, most, most, most-1), mostFour}
	for i, a := range rising {
		for j, b := range rising {
			want := 0
			if i < j {
				want = -1
			} else if i > j {
				want = 1
			}
			if got := limb.Cmp(a, b); got != want {
				t.Errorf("1.2: Cmp(%x, %x) = %d", a, b, got)
			}
		}
	}
	l := lengths()
	for _, a := range l {
		for _, b := range l {
			if got := limb.Cmp(a, b); got != bigFour(a).Cmp(bigFour(b)) {
				t.Fatalf("1.2: Cmp(%x, %x) = %d", a, b, got)
			}
		}
	}
}

func TestLen(t *testing.T) {
	if limb.Len(api.Four{}) != 0 || limb.Len(four(0, 0, 0, 1)) != 1 || limb.Len(mostFour) != 256 {
		t.Error("1.2: Len of nought, of 1, of the greatest number")
	}
	for _, a := range lengths() {
		if got := limb.Len(a); got != bigFour(a).BitLen() {
			t.Errorf("1.2: Len(%x) = %d", a, got)
		}
	}
}

func TestSqrtByHand(t *testing.T) {
	for _, c := range []struct {
		a api.Four
		s api.Two
	}{
		{four(0, 0, 0, 0), two(0, 0)},
		{four(0, 0, 0, 1), two(0, 1)},
		{four(0, 0, 0, 3), two(0, 1)},
		{four(0, 0, 0, 4), two(0, 2)},
		{four(0, 0, 0, 99), two(0, 9)},
		{four(0, 0, 0, 100), two(0, 10)},
		{four(0, 0, 0, most), two(0, 1<<32-1)},
		{four(0, 0, 1, 0), two(0, 1<<32)},
		{four(0, 0, most, most), two(0, most)},
		{four(0, 1, 0, 0), two(1, 0)},
		{four(0, 0, most-1, 1), two(0, most)},
		{four(0, 0, most-1, 0), two(0, most-1)},
		{four(most, most-1, 0, 1), mostTwo},
		{four(most, most-1, 0, 0), two(most, most-1)},
		{mostFour, mostTwo},
	} {
		if s := limb.Sqrt(c.a); s != c.s {
			t.Errorf("1.2: Sqrt(%x) = %x", c.a, s)
		}
	}
}

func TestSqrtOfSmall(t *testing.T) {
	for n := range uint64(70000) {
		checkSqrt(t, four(0, 0, 0, n))
	}
}

func TestSqrtOfLengths(t *testing.T) {
	for _, a := range lengths() {
		checkSqrt(t, a)
	}
}

func TestSqrtNextToSquares(t *testing.T) {
	var w words = 5
	for n := range 5000 {
		s := limb.Shr(api.Four{Lo: w.two()}, n%128).Lo
		square := new(big.Int).Mul(bigTwo(s), bigTwo(s))
		for range 3 {
			if square.Sign() >= 0 {
				checkSqrt(t, ofBig(square))
			}
			square.Sub(square, big.NewInt(1))
		}
		square.Add(square, bigTwo(s)).Add(square, bigTwo(s)).Add(square, big.NewInt(3))
		checkSqrt(t, ofBig(square))
		if square.Add(square, big.NewInt(1)).BitLen() <= 256 {
			checkSqrt(t, ofBig(square))
		}
	}
}

func TestSqrtOfAny(t *testing.T) {
	var w words = 6
	for n := range 20000 {
		checkSqrt(t, limb.Shr(w.four(), n%256))
	}
}

func checkSqrt(t *testing.T, a api.Four) {
	t.Helper()
	if s := limb.Sqrt(a); bigTwo(s).Cmp(new(big.Int).Sqrt(bigFour(a))) != 0 {
		t.Fatalf("1.2: Sqrt(%x) = %x", a, s)
	}
}
