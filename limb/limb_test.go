package limb_test

import (
	"math/big"
	"testing"

	"perigee/api"
	"perigee/limb"
)

func TestAddByHand(t *testing.T) {
	for _, c := range []struct {
		a, b, sum api.Two
		lost      bool
	}{
		{two(0, 0), two(0, 0), two(0, 0), false},
		{two(1, 2), two(3, 4), two(4, 6), false},
		{two(0, most), two(0, 1), two(1, 0), false},
		{two(most, most), two(0, 0), two(most, most), false},
		{two(most, most), two(0, 1), two(0, 0), true},
		{two(0, 1), two(most, most), two(0, 0), true},
		{two(most, most), two(most, most), two(most, most-1), true},
		{two(1<<63, 0), two(1<<63, 0), two(0, 0), true},
		{two(1<<63-1, most), two(1<<63, 0), two(most, most), false},
		{two(most-1, most), two(0, 1), two(most, 0), false},
	} {
		if sum, lost := limb.Add(c.a, c.b); sum != c.sum || lost != c.lost {
			t.Errorf("1.1: Add(%x, %x) = %x, %t", c.a, c.b, sum, lost)
		}
	}
}

func TestSubByHand(t *testing.T) {
	for _, c := range []struct {
		a, b, rest api.Two
		above      bool
	}{
		{two(0, 0), two(0, 0), two(0, 0), false},
		{two(4, 6), two(3, 4), two(1, 2), false},
		{two(1, 0), two(0, 1), two(0, most), false},
		{two(0, 0), two(0, 1), two(most, most), true},
		{two(0, 0), two(most, most), two(0, 1), true},
		{two(1, 5), two(1, 6), two(most, most), true},
		{two(1, 5), two(2, 0), two(most, 5), true},
		{two(most, most), two(most, most), two(0, 0), false},
		{two(1<<63, 0), two(1<<63, 1), two(most, most), true},
		{two(5, 0), two(4, most), two(0, 1), false},
	} {
		if rest, above := limb.Sub(c.a, c.b); rest != c.rest || above != c.above {
			t.Errorf("1.1: Sub(%x, %x) = %x, %t", c.a, c.b, rest, above)
		}
	}
}

func TestAddSubMulAtEdges(t *testing.T) {
	l := edgeTwos()
	for _, a := range l {
		for _, b := range l {
			checkAddSub(t, a, b)
			checkMul(t, a, b)
		}
	}
}

func TestAddSubMulOfAny(t *testing.T) {
	var w words = 1
	for range 20000 {
		a, b := w.two(), w.two()
		checkAddSub(t, a, b)
		checkMul(t, a, b)
	}
}

func checkAddSub(t *testing.T, a, b api.Two) {
	t.Helper()
	sum, lost := limb.Add(a, b)
	exact := new(big.Int).Add(bigTwo(a), bigTwo(b))
	if lost != (exact.Cmp(power(128)) >= 0) || bigTwo(sum).Cmp(exact.Mod(exact, power(128))) != 0 {
		t.Fatalf("1.1: Add(%x, %x) = %x, %t", a, b, sum, lost)
	}
	rest, above := limb.Sub(a, b)
	exact.Sub(bigTwo(a), bigTwo(b))
	if above != (exact.Sign() < 0) || bigTwo(rest).Cmp(exact.Mod(exact, power(128))) != 0 {
		t.Fatalf("1.1: Sub(%x, %x) = %x, %t", a, b, rest, above)
	}
}

func TestMulByHand(t *testing.T) {
	for _, c := range []struct {
		a, b api.Two
		p    api.Four
	}{
		{two(0, 0), mostTwo, four(0, 0, 0, 0)},
		{two(0, 1), mostTwo, four(0, 0, most, most)},
		{two(0, 6), two(0, 7), four(0, 0, 0, 42)},
		{two(0, most), two(0, most), four(0, 0, most-1, 1)},
		{two(1, 0), two(1, 0), four(0, 1, 0, 0)},
		{mostTwo, mostTwo, four(most, most-1, 0, 1)},
	} {
		if p := limb.Mul(c.a, c.b); p != c.p {
			t.Errorf("1.1: Mul(%x, %x) = %x", c.a, c.b, p)
		}
	}
}

func checkMul(t *testing.T, a, b api.Two) {
	t.Helper()
	if p := limb.Mul(a, b); bigFour(p).Cmp(new(big.Int).Mul(bigTwo(a), bigTwo(b))) != 0 {
		t.Fatalf("1.1: Mul(%x, %x) = %x", a, b, p)
	}
}

func TestDivByHand(t *testing.T) {
	for _, c := range []struct {
		a api.Four
		b api.Two
		q api.Four
		r api.Two
	}{
		{four(0, 0, 0, 0), two(0, 1), four(0, 0, 0, 0), two(0, 0)},
		{four(0, 0, 0, 0), mostTwo, four(0, 0, 0, 0), two(0, 0)},
		{four(0, 0, 0, 100), two(0, 7), four(0, 0, 0, 14), two(0, 2)},
		{four(0, 0, 0, 6), two(0, 7), four(0, 0, 0, 0), two(0, 6)},
		{four(0, 0, 5, 6), two(5, 6), four(0, 0, 0, 1), two(0, 0)},
		{four(0, 0, 5, 5), two(5, 6), four(0, 0, 0, 0), two(5, 5)},
		{mostFour, two(0, 1), mostFour, two(0, 0)},
		{mostFour, two(0, 2), four(1<<63-1, most, most, most), two(0, 1)},
		{mostFour, mostTwo, four(0, 1, 0, 1), two(0, 0)},
		{mostFour, two(1<<63, 0), four(0, 1, most, most), two(1<<63-1, most)},
		{four(0, 1, 0, 0), two(0, 3), four(0, 0, 0x5555555555555555, 0x5555555555555555), two(0, 1)},
		{four(0, 1, 0, 0), mostTwo, four(0, 0, 0, 1), two(0, 1)},
	} {
		q, r, ok := limb.Div(c.a, c.b)
		if !ok || q != c.q || r != c.r {
			t.Errorf("1.1: Div(%x, %x) = %x, %x, %t", c.a, c.b, q, r, ok)
		}
	}
}

func TestDivByNought(t *testing.T) {
	for _, a := range lengths() {
		if q, r, ok := limb.Div(a, api.Two{}); ok || q != (api.Four{}) || r != (api.Two{}) {
			t.Errorf("1.1: Div(%x, 0) = %x, %x, %t", a, q, r, ok)
		}
	}
}

func TestDivAtEdges(t *testing.T) {
	l := lengths()
	for _, a := range l {
		for _, b := range l {
			if b.Hi == (api.Two{}) && b.Lo != (api.Two{}) {
				checkDiv(t, a, b.Lo)
			}
		}
	}
}

func TestDivOfAny(t *testing.T) {
	var w words = 2
	for range 100000 {
		a, b := limb.Shr(w.four(), int(w.word()%256)), limb.Shr(api.Four{Lo: w.two()}, int(w.word()%128)).Lo
		if b != (api.Two{}) {
			checkDiv(t, a, b)
		}
	}
}

// What is next to a multiple of b is where a half of the quotient is guessed one too high.
func TestDivNextToMultiples(t *testing.T) {
	var w words = 3
	for range 50000 {
		q, b := w.two(), w.two()
		if b == (api.Two{}) {
			continue
		}
		p := limb.Mul(q, b)
		checkDiv(t, p, b)
		exact := bigFour(p)
		checkDiv(t, ofBig(exact.Add(exact, bigTwo(b)).Sub(exact, big.NewInt(1))), b)
	}
}

func checkDiv(t *testing.T, a api.Four, b api.Two) {
	t.Helper()
	q, r, ok := limb.Div(a, b)
	n, m := new(big.Int).QuoRem(bigFour(a), bigTwo(b), new(big.Int))
	if !ok || bigFour(q).Cmp(n) != 0 || bigTwo(r).Cmp(m) != 0 {
		t.Fatalf("1.1: Div(%x, %x) = %x, %x, %t", a, b, q, r, ok)
	}
	checkBack(t, a, b, q, r)
}

// checkBack holds 1.3 by the package's own calls.
func checkBack(t *testing.T, a api.Four, b api.Two, q api.Four, r api.Two) {
	t.Helper()
	low, high := limb.Mul(q.Lo, b), limb.Mul(q.Hi, b)
	if high.Hi != (api.Two{}) {
		t.Fatalf("1.3: of Div(%x, %x) q times b is too long", a, b)
	}
	lo, carry := limb.Add(low.Lo, r)
	hi, lost := limb.Add(low.Hi, high.Lo)
	if carry {
		var again bool
		hi, again = limb.Add(hi, two(0, 1))
		lost = lost || again
	}
	if lost || (api.Four{Hi: hi, Lo: lo}) != a {
		t.Fatalf("1.3: of Div(%x, %x) q times b, and r, are %x, %x", a, b, hi, lo)
	}
	if limb.Cmp(api.Four{Lo: r}, api.Four{Lo: b}) >= 0 {
		t.Fatalf("1.3: of Div(%x, %x) r is %x, which b is in", a, b, r)
	}
}
