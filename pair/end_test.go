package pair_test

import (
	"math/big"
	"testing"

	"perigee/api"
)

// square is a times a, as a step tells it, in parts.
func square(a api.Fix) *big.Int { return near(new(big.Int).Mul(units(a), units(a)), power(64)) }

// left is what is left of 2^63, in parts.
func left(taken ...*big.Int) *big.Int {
	n := power(127)
	for _, one := range taken {
		n.Sub(n, one)
	}
	return n
}

// ofSquare is what has n parts as its square, in parts.
func ofSquare(n *big.Int) *big.Int {
	n = new(big.Int).Lsh(n, 64)
	return n.Sqrt(n)
}

// sides is what was seen on both sides of an end.
type sides struct {
	tally
	t *testing.T
}

func (s *sides) ask(c call) {
	s.t.Helper()
	s.tally[check(s.t, c)]++
}

// both holds that calls ended at that step, and without an error, often enough to say something.
func (s *sides) both(step, many int) {
	s.t.Helper()
	if s.tally[step] < many || s.tally[done] < many {
		s.t.Errorf("10.1: next to the end %d calls ended at %s, %d at none: too few to say anything", s.tally[step], names()[step], s.tally[done])
	}
}

// far is a call whose bodies are at d, and eps.
func far(d api.Vec, eps api.Fix) call { return call{n(7), n(5), n(3), d, eps, n(-11)} }

func TestSquaresNextToTheEnd(t *testing.T) {
	x, y, eps := sides{t: t}, sides{t: t}, sides{t: t}
	around(ofSquare(power(127)), func(a api.Fix) {
		for _, b := range []api.Fix{nought, part, below} {
			x.ask(far(at(a, b), b))
			y.ask(far(at(b, a), b))
			eps.ask(far(at(b, b), a))
		}
	})
	x.both(xByX, 6)
	y.both(yByY, 6)
	eps.both(mulEps, 6)
}

func TestSumsNextToTheEnd(t *testing.T) {
	len2Of, addOf := sides{t: t}, sides{t: t}
	var w words = 3
	for range 1000 {
		x, y := w.fix(94), w.fix(95)
		around(ofSquare(left(square(y))), func(a api.Fix) {
			len2Of.ask(far(at(a, y), nought))
			len2Of.ask(far(at(y, a), nought))
			addOf.ask(far(at(y, nought), a))
		})
		around(ofSquare(left(square(x), square(x))), func(a api.Fix) {
			addOf.ask(far(at(x, neg(x)), a))
			addOf.ask(far(at(a, x), x))
		})
	}
	len2Of.both(len2, 1000)
	addOf.both(addEps, 1000)
}

// The greatest sum there is, that a part below it, and the least that there is not.
func TestSumsAtTheEnd(t *testing.T) {
	len2Of, addOf := sides{t: t}, sides{t: t}
	for i := range int64(100) {
		long, _ := ofUnits(new(big.Int).Sub(ofSquare(power(127)), big.NewInt(i)))
		rest := left(square(long))
		for more := range int64(3) {
			short, _ := ofUnits(ofSquare(new(big.Int).Sub(rest, big.NewInt(more))))
			len2Of.ask(far(at(long, short), nought))
			len2Of.ask(far(at(neg(short), long), nought))
			addOf.ask(far(at(neg(long), nought), short))
			addOf.ask(far(at(nought, long), short))
			addOf.ask(far(at(short, nought), long))
		}
	}
	len2Of.both(len2, 100)
	addOf.both(addEps, 100)
	if ends := len2Of.tally; ends[len2]*2 != ends[done] {
		t.Errorf("10.1: of three sums one is beyond, but %d are, %d not", ends[len2], ends[done])
	}
}

// The greatest product that is one, and those next to it, of each of the three.
func TestProductsNextToTheEnd(t *testing.T) {
	var w words = 4
	ofB, ofG, ofH := sides{t: t}, sides{t: t}, sides{t: t}
	d := at(of(1<<20, 5), of(-1<<21, 7))
	for range 2000 {
		a, b := w.fix(127), w.fix(64)
		if a == nought || b == nought {
			continue
		}
		around(new(big.Int).Quo(power(191), units(a)), func(c api.Fix) {
			ofB.ask(call{n(1), a, c, d, n(0), n(1)})
			ofG.ask(call{c, n(-1), a, d, n(0), n(1)})
			ofH.ask(call{n(-1), n(1), a, d, n(0), c})
		})
		// Of what was rounded ahead, too.
		all := near(new(big.Int).Mul(units(a), units(b)), power(64))
		if all.Sign() == 0 {
			continue
		}
		around(new(big.Int).Quo(power(191), all), func(c api.Fix) {
			ofG.ask(call{c, a, b, d, n(0), n(1)})
			ofH.ask(call{a, n(1), b, d, n(0), c})
		})
	}
	ofB.both(mulB, 1000)
	ofG.both(mulG, 1000)
	ofH.both(mulH, 1000)
}

// Next to where a step is half a part, of an odd number and another over 2^64, on both sides of nought.
func TestProductsNextToHalves(t *testing.T) {
	var w words = 5
	for range 1000 {
		up := uint(w.word() % 64)
		a := of(0, (w.word()>>(2+up)|1)<<up)
		m := new(big.Int).SetUint64(w.word()>>1 | 1)
		around(m.Lsh(m, 63-up), func(b api.Fix) {
			check(t, call{n(1), a, b, v(1, 0), n(0), n(1)})
			check(t, call{a, n(1), b, v(0, 1), n(0), n(1)})
			check(t, call{b, n(1), n(-1), v(0, -1), n(0), a})
		})
	}
}

// close is a place less than 1 away on each axis.
func (w *words) close() api.Vec {
	return at(of(0, w.word()>>(w.word()%30)), of(-1, w.word()>>(w.word()%30)))
}

// Of what is divided by r the end is seen; that by r2 is beyond only where what is divided by r would be, too.
func TestQuotientsNextToTheEnd(t *testing.T) {
	var w words = 6
	byR2, byR := sides{t: t}, sides{t: t}
	for i := range 2000 {
		d := w.close()
		if i%2 == 0 {
			d = at(d.Y, nought)
		}
		r2 := new(big.Int).Add(square(d.X), square(d.Y))
		if r2.Sign() == 0 {
			continue
		}
		r := ofSquare(r2)
		// 2^63 times r2, and times r.
		around(new(big.Int).Lsh(r2, 63), func(a api.Fix) { byR2.ask(call{a, n(1), n(-1), d, n(0), n(1)}) })
		around(r.Mul(r, r2).Rsh(r, 1), func(a api.Fix) { byR.ask(call{n(1), a, n(1), d, n(0), n(1)}) })
	}
	byR.both(divR, 1000)
	if byR2.tally[divR2] < 1000 || byR2.tally[divR] < 1000 {
		t.Errorf("10.1: next to the end %d calls ended at Div by r2, %d at Div by r", byR2.tally[divR2], byR2.tally[divR])
	}
}

// As hard as may be, about one away and on: Scale, the last step, is never beyond.
func TestScaleNextToTheEnd(t *testing.T) {
	var w words = 7
	l := sides{t: t}
	for i := range 3000 {
		x := of(int64(w.word()>>(33+w.word()%31)), w.word()>>(w.word()%64))
		d := at(x, nought)
		switch i % 4 {
		case 1:
			d = at(nought, neg(x))
		case 2:
			d = at(of(1, w.word()>>(w.word()%64)), of(0, w.word()%4))
		case 3:
			d = at(of(0, most-w.word()%4), part)
		}
		for _, k := range []api.Fix{greatest, lowest} {
			l.ask(call{k, n(1), n(1), d, n(0), n(1)})
		}
	}
	l.both(divR2, 500)
	if l.tally[scaleX]+l.tally[scaleY] != 0 {
		t.Errorf("10.1: %v calls ended at Scale", l.tally[scaleX:])
	}
}
