package vec_test

import (
	"math/big"
	"testing"

	"perigee/api"
	"perigee/vec"
)

type step func(a, b api.Fix) (api.Fix, api.Errno)

// byEach is what a call that goes by X and Y each must tell.
func byEach(s step, a, b api.Vec) (api.Vec, api.Errno) {
	x, e := s(a.X, b.X)
	y, f := s(a.Y, b.Y)
	if e != api.OK {
		return api.Vec{}, e
	}
	if f != api.OK {
		return api.Vec{}, f
	}
	return at(x, y), api.OK
}

func wantDot(a, b api.Vec) (api.Fix, api.Errno) {
	p, e := byEach(mulStep, a, b)
	if e != api.OK {
		return api.Fix{}, e
	}
	return addStep(p.X, p.Y)
}

func wantLen(a api.Vec) (api.Fix, api.Errno) {
	far, e := wantDot(a, a)
	if e != api.OK {
		return api.Fix{}, e
	}
	return rootStep(far)
}

func checkSums(t *testing.T, a, b api.Vec) {
	t.Helper()
	sum, e := vec.Add(a, b)
	if want, f := byEach(addStep, a, b); sum != want || e != f {
		t.Fatalf("4.1: Add(%x, %x) = %x, %d, not %x, %d", a, b, sum, e, want, f)
	}
	rest, e := vec.Sub(a, b)
	if want, f := byEach(subStep, a, b); rest != want || e != f {
		t.Fatalf("4.1: Sub(%x, %x) = %x, %d, not %x, %d", a, b, rest, e, want, f)
	}
}

func checkScale(t *testing.T, a api.Vec, k api.Fix) {
	t.Helper()
	s, e := vec.Scale(a, k)
	if want, f := byEach(mulStep, a, at(k, k)); s != want || e != f {
		t.Fatalf("4.1: Scale(%x, %x) = %x, %d, not %x, %d", a, k, s, e, want, f)
	}
	about, f := vec.Scale(a, negStep(k))
	if e != f || about != at(negStep(s.X), negStep(s.Y)) || about != vec.Neg(s) {
		t.Fatalf("4.2: Scale(%x, %x) = %x, %d, but turned in sign %x, %d", a, k, s, e, about, f)
	}
}

func checkDot(t *testing.T, a, b api.Vec) {
	t.Helper()
	d, e := vec.Dot(a, b)
	if want, f := wantDot(a, b); d != want || e != f {
		t.Fatalf("4.1: Dot(%x, %x) = %x, %d, not %x, %d", a, b, d, e, want, f)
	}
}

func checkLen(t *testing.T, a api.Vec) {
	t.Helper()
	far, e := vec.Len2(a)
	if want, f := wantDot(a, a); far != want || e != f {
		t.Fatalf("4.1: Len2(%x) = %x, %d, not %x, %d", a, far, e, want, f)
	}
	long, e := vec.Len(a)
	if want, f := wantLen(a); long != want || e != f {
		t.Fatalf("4.1: Len(%x) = %x, %d, not %x, %d", a, long, e, want, f)
	}
}

func TestOfAny(t *testing.T) {
	pairs(func(a, b api.Vec) {
		checkSums(t, a, b)
		checkDot(t, a, b)
	})
}

func TestScaleAndLenOfAny(t *testing.T) {
	for _, a := range places() {
		checkLen(t, a)
		for _, k := range ends() {
			checkScale(t, a, k)
		}
	}
	var w words = 2
	for i := range 30000 {
		bits := []uint64{127, 95, 64}[i%3]
		a := w.vec(bits)
		checkLen(t, a)
		checkScale(t, a, w.fix(bits))
	}
}

// inEach calls with a as X and b as Y, and the other way about.
func inEach(a, b api.Fix, each func(a api.Vec)) {
	each(at(a, b))
	each(at(b, a))
}

func TestSumsNextToTheEnd(t *testing.T) {
	var w words = 3
	for range 3000 {
		a, c, d := w.fix(127), w.fix(126), w.fix(126)
		around(new(big.Int).Sub(power(127), units(a)), func(b api.Fix) {
			for _, p := range [][2]api.Vec{{at(a, c), at(b, d)}, {at(c, a), at(d, b)}, {at(a, a), at(b, b)}} {
				checkSums(t, p[0], p[1])
			}
		})
	}
}

func TestScaledNextToTheEnd(t *testing.T) {
	var w words = 4
	for range 3000 {
		k, other := w.fix(127), w.fix(64)
		if k == nought {
			continue
		}
		around(new(big.Int).Quo(power(191), units(k)), func(b api.Fix) {
			inEach(b, other, func(a api.Vec) { checkScale(t, a, k) })
			checkScale(t, at(b, b), k)
		})
	}
}

// Of an odd number and another, times 2^63 over 2^64, a half is left: on both sides of nought.
func TestScaledNextToHalves(t *testing.T) {
	var w words = 5
	for range 3000 {
		up := uint(w.word() % 64)
		k := of(0, (w.word()>>(2+up)|1)<<up)
		n := new(big.Int).SetUint64(w.word()>>1 | 1)
		around(n.Lsh(n, 63-up), func(b api.Fix) {
			inEach(b, w.fix(64), func(a api.Vec) {
				checkScale(t, a, k)
				checkDot(t, a, at(k, k))
			})
		})
	}
}

// Each product is a number; what they are together is the last number, or the first that is none.
func TestDotNextToTheEnd(t *testing.T) {
	var w words = 6
	for range 3000 {
		a, b := w.fix(95), w.fix(95)
		p, e := mulStep(a, b)
		if e != api.OK {
			continue
		}
		around(new(big.Int).Sub(power(127), units(p)), func(rest api.Fix) {
			checkDot(t, at(a, rest), at(b, n(1)))
			checkDot(t, at(n(-1), a), at(rest, b))
		})
	}
}

func TestLenNextToTheEnd(t *testing.T) {
	var w words = 7
	for range 3000 {
		// 2^95 over 2^64 has a square next to 2^63.
		x := w.fix(95 + w.word()%2)
		far, e := mulStep(x, x)
		if e != api.OK {
			continue
		}
		rest := new(big.Int).Sub(power(127), units(far))
		around(rest.Sqrt(rest.Lsh(rest, 64)), func(y api.Fix) { inEach(x, y, func(a api.Vec) { checkLen(t, a) }) })
	}
	end := power(191)
	around(end.Sqrt(end), func(x api.Fix) {
		for _, y := range []api.Fix{nought, part, below, x} {
			inEach(x, y, func(a api.Vec) { checkLen(t, a) })
		}
	})
	half := power(190)
	around(half.Sqrt(half), func(x api.Fix) { checkLen(t, at(x, x)) })
}
