package vec_test

import (
	"math"
	"testing"

	"perigee/api"
	"perigee/vec"
)

func TestMay(t *testing.T) {
	for _, a := range places() {
		if !vec.May(a) {
			t.Errorf("4.1: May(%x)", a)
		}
	}
	for _, b := range append(ends(), least) {
		if vec.May(at(least, b)) || vec.May(at(b, least)) {
			t.Errorf("4.1: May of the least of all, and %x", b)
		}
	}
}

func TestNeg(t *testing.T) {
	for _, c := range [][2]api.Vec{
		{v(0, 0), v(0, 0)},
		{v(3, -4), v(-3, 4)},
		{v(0, 5), v(0, -5)},
		{v(-5, 0), v(5, 0)},
		{at(part, below), at(below, part)},
		{at(of(3, 5), of(0, 1<<63)), at(of(-4, most-4), of(-1, 1<<63))},
		{at(greatest, n(1)), at(lowest, n(-1))},
		{at(n(1), lowest), at(n(-1), greatest)},
	} {
		if vec.Neg(c[0]) != c[1] || vec.Neg(c[1]) != c[0] {
			t.Errorf("4.1: Neg(%x) = %x, Neg(%x) = %x", c[0], vec.Neg(c[0]), c[1], vec.Neg(c[1]))
		}
	}
	for _, a := range places() {
		if vec.Neg(a) != at(negStep(a.X), negStep(a.Y)) {
			t.Errorf("4.1: Neg(%x) = %x", a, vec.Neg(a))
		}
	}
}

// row is a call of two places by hand.
type row struct {
	a, b, want api.Vec
	e          api.Errno
}

func TestAddByHand(t *testing.T) {
	for _, c := range []row{
		{v(0, 0), v(0, 0), v(0, 0), api.OK},
		{v(3, -4), v(-10, 7), v(-7, 3), api.OK},
		{v(1, 2), v(0, 5), v(1, 7), api.OK},
		{v(1, 2), v(5, 0), v(6, 2), api.OK},
		{at(of(1, 1<<63), below), at(of(2, 1<<63), part), v(4, 0), api.OK},
		{at(greatest, n(1)), at(nought, n(1)), at(greatest, n(2)), api.OK},
		{at(greatest, n(1)), at(part, n(1)), v(0, 0), api.ErrOver},
		{at(n(1), greatest), at(n(1), part), v(0, 0), api.ErrOver},
		{at(greatest, greatest), at(part, part), v(0, 0), api.ErrOver},
		{at(greatest, greatest), at(below, below), at(of(math.MaxInt64, most-1), of(math.MaxInt64, most-1)), api.OK},
		{at(lowest, n(1)), at(below, n(1)), v(0, 0), api.ErrOver},
		{at(n(1), lowest), at(n(1), below), v(0, 0), api.ErrOver},
		{at(lowest, greatest), at(greatest, lowest), v(0, 0), api.OK},
		{at(n(1<<62), n(-1<<62)), at(of(1<<62-1, most), of(-1<<62, 1)), at(greatest, lowest), api.OK},
	} {
		if s, e := vec.Add(c.a, c.b); s != c.want || e != c.e {
			t.Errorf("4.1: Add(%x, %x) = %x, %d", c.a, c.b, s, e)
		}
	}
}

func TestSubByHand(t *testing.T) {
	for _, c := range []row{
		{v(0, 0), v(0, 0), v(0, 0), api.OK},
		{v(3, -4), v(-10, 7), v(13, -11), api.OK},
		{v(1, 2), v(0, 5), v(1, -3), api.OK},
		{v(1, 2), v(5, 0), v(-4, 2), api.OK},
		{at(nought, nought), at(part, below), at(below, part), api.OK},
		{v(0, 0), at(lowest, greatest), at(greatest, lowest), api.OK},
		{at(greatest, n(1)), at(below, n(1)), v(0, 0), api.ErrOver},
		{at(n(1), greatest), at(n(1), below), v(0, 0), api.ErrOver},
		{at(lowest, n(1)), at(part, n(1)), v(0, 0), api.ErrOver},
		{at(n(1), lowest), at(n(1), part), v(0, 0), api.ErrOver},
		{at(lowest, lowest), at(greatest, greatest), v(0, 0), api.ErrOver},
		{at(greatest, lowest), at(greatest, lowest), v(0, 0), api.OK},
	} {
		if s, e := vec.Sub(c.a, c.b); s != c.want || e != c.e {
			t.Errorf("4.1: Sub(%x, %x) = %x, %d", c.a, c.b, s, e)
		}
	}
}

func TestScaleByHand(t *testing.T) {
	half := of(0, 1<<63)
	for _, c := range []struct {
		a    api.Vec
		k    api.Fix
		want api.Vec
		e    api.Errno
	}{
		{v(3, -4), n(2), v(6, -8), api.OK},
		{v(3, -4), n(-2), v(-6, 8), api.OK},
		{v(3, -4), nought, v(0, 0), api.OK},
		{v(0, 0), n(7), v(0, 0), api.OK},
		{v(0, -4), n(7), v(0, -28), api.OK},
		{v(-4, 0), n(7), v(-28, 0), api.OK},
		{v(5, 5), n(3), v(15, 15), api.OK},
		{v(3, -3), half, at(of(1, 1<<63), of(-2, 1<<63)), api.OK},
		{at(part, below), half, at(part, below), api.OK},
		{at(of(0, 3), of(-1, most-2)), half, at(of(0, 2), of(-1, most-1)), api.OK},
		{at(of(0, 3), of(-1, most-2)), negStep(half), at(of(-1, most-1), of(0, 2)), api.OK},
		{at(part, below), of(0, 1<<63-1), v(0, 0), api.OK},
		{at(greatest, lowest), nought, v(0, 0), api.OK},
		{at(greatest, lowest), n(1), at(greatest, lowest), api.OK},
		{at(greatest, lowest), n(-1), at(lowest, greatest), api.OK},
		{at(greatest, n(1)), of(0, most), at(of(math.MaxInt64, 1<<63-1), of(0, most)), api.OK},
		{at(greatest, n(1)), of(1, 1), v(0, 0), api.ErrOver},
		{at(n(1), lowest), of(1, 1), v(0, 0), api.ErrOver},
		{at(of(math.MaxInt64, 1<<63-1), n(1)), of(1, 1), at(of(math.MaxInt64, most-1), of(1, 1)), api.OK},
		{at(of(math.MaxInt64, 1<<63), n(1)), of(1, 1), v(0, 0), api.ErrOver},
		{at(of(1<<62-1, most), n(1)), n(2), at(of(math.MaxInt64, most-1), n(2)), api.OK},
		{at(n(1<<62), n(1)), n(2), v(0, 0), api.ErrOver},
		{at(n(1), n(-1<<62)), n(2), v(0, 0), api.ErrOver},
		{at(n(1<<62), n(-1<<62)), n(-2), v(0, 0), api.ErrOver},
		{v(1<<31, -1<<31), n(1 << 31), v(1<<62, -1<<62), api.OK},
	} {
		if s, e := vec.Scale(c.a, c.k); s != c.want || e != c.e {
			t.Errorf("4.1: Scale(%x, %x) = %x, %d", c.a, c.k, s, e)
		}
	}
}

func TestDotByHand(t *testing.T) {
	half := of(0, 1<<63)
	for _, c := range []struct {
		a, b api.Vec
		want api.Fix
		e    api.Errno
	}{
		{v(3, -4), v(-10, 7), n(-58), api.OK},
		{v(3, 4), v(4, 3), n(24), api.OK},
		{v(3, 3), v(4, 4), n(24), api.OK},
		{v(3, 3), v(4, 5), n(27), api.OK},
		{v(3, 5), v(4, 4), n(32), api.OK},
		{v(3, -3), v(3, 3), n(0), api.OK},
		{v(-3, -4), v(-5, -6), n(39), api.OK},
		{v(0, 0), v(5, 6), n(0), api.OK},
		{v(0, 7), v(5, 6), n(42), api.OK},
		{v(7, 0), v(5, 6), n(35), api.OK},
		{v(7, 0), v(0, 6), n(0), api.OK},
		// Each product is rounded ahead of the sum.
		{at(part, part), at(half, half), of(0, 2), api.OK},
		{at(part, below), at(half, half), n(0), api.OK},
		{at(below, below), at(half, half), of(-1, most-1), api.OK},
		{at(part, part), at(of(0, 1<<63-1), of(0, 1<<63-1)), n(0), api.OK},
		// One product beyond, whatever the other one takes away.
		{at(greatest, n(1)), v(2, 1), n(0), api.ErrOver},
		{at(n(1), greatest), v(1, 2), n(0), api.ErrOver},
		{at(n(1<<62), n(-1)), v(2, 1), n(0), api.ErrOver},
		{at(n(-1), n(1<<62)), v(1, 2), n(0), api.ErrOver},
		{v(1<<62, -1<<62), v(2, 2), n(0), api.ErrOver},
		{v(1<<62, 1<<62), v(2, 2), n(0), api.ErrOver},
		// The sum alone beyond.
		{v(1<<62, 1<<62), v(1, 1), n(0), api.ErrOver},
		{v(-1<<62, 1<<62), v(1, -1), n(0), api.ErrOver},
		{at(n(1<<62), of(1<<62-1, most)), v(1, 1), greatest, api.OK},
		{at(n(1<<62), of(1<<62-1, most)), v(-1, -1), lowest, api.OK},
		{at(greatest, part), v(1, 1), n(0), api.ErrOver},
		{at(part, greatest), v(-1, -1), n(0), api.ErrOver},
		{at(greatest, lowest), v(1, 1), n(0), api.OK},
	} {
		if d, e := vec.Dot(c.a, c.b); d != c.want || e != c.e {
			t.Errorf("4.1: Dot(%x, %x) = %x, %d", c.a, c.b, d, e)
		}
	}
}

// long is what a way's Len2 and Len must be.
type long struct{ far, len api.Fix }

func TestLenByHand(t *testing.T) {
	for a, want := range map[api.Vec]long{
		v(0, 0):                       {n(0), n(0)},
		v(3, 4):                       {n(25), n(5)},
		v(-4, 3):                      {n(25), n(5)},
		v(3, -4):                      {n(25), n(5)},
		v(-3, -4):                     {n(25), n(5)},
		v(5, -12):                     {n(169), n(13)},
		v(0, 7):                       {n(49), n(7)},
		v(-7, 0):                      {n(49), n(7)},
		v(1, 0):                       {n(1), n(1)},
		v(0, -1):                      {n(1), n(1)},
		v(1, 1):                       {n(2), of(1, 0x6a09e667f3bcc908)},
		v(1, -1):                      {n(2), of(1, 0x6a09e667f3bcc908)},
		v(3, 3):                       {n(18), of(4, 0x3e1db337db365b1a)},
		at(of(1, 1<<63), n(-2)):       {of(6, 1<<62), of(2, 1<<63)},
		at(part, below):               {n(0), n(0)},
		at(of(0, 1<<32), nought):      {part, of(0, 1<<32)},
		at(nought, of(0, 0xb504f333)): {n(0), n(0)},
		at(nought, of(0, 0xb504f334)): {part, of(0, 1<<32)},
		v(1<<31, 1<<30):               {n(5 << 60), of(0x8f1bbcdc, 0xbfa53e0af9ce6030)},
		v(1<<31, 0):                   {n(1 << 62), n(1 << 31)},
	} {
		far, e := vec.Len2(a)
		if far != want.far || e != api.OK {
			t.Errorf("4.1: Len2(%x) = %x, %d", a, far, e)
		}
		if l, e := vec.Len(a); l != want.len || e != api.OK {
			t.Errorf("4.1: Len(%x) = %x, %d", a, l, e)
		}
	}
	for _, a := range []api.Vec{v(1<<32, 0), v(0, -1<<32), v(1<<31, 1<<31), v(-1<<31, -1<<31), at(greatest, nought), at(nought, lowest), at(greatest, lowest)} {
		far, e := vec.Len2(a)
		l, f := vec.Len(a)
		if far != nought || l != nought || e != api.ErrOver || f != api.ErrOver {
			t.Errorf("4.1: Len2(%x) = %x, %d, Len %x, %d", a, far, e, l, f)
		}
	}
}

func TestTurnedInSignByHand(t *testing.T) {
	a := at(of(5, 77777), of(-6, 3))
	for _, k := range []api.Fix{nought, part, below, of(0, 1<<63), n(1), n(-1), n(7), of(-3, 12345), of(1<<60, 99), n(1 << 61), greatest, lowest} {
		s, e := vec.Scale(a, k)
		about, f := vec.Scale(a, negStep(k))
		if about != vec.Neg(s) || e != f {
			t.Errorf("4.2: Scale(%x, %x) = %x, %d, but turned in sign %x, %d", a, k, s, e, about, f)
		}
	}
}
