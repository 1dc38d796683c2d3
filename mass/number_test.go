package mass_test

import (
	"math"
	"math/big"

	"perigee/api"
)

const most = 1<<64 - 1

var nought = api.Fix{}

func of(hi int64, lo uint64) api.Fix { return api.Fix{Hi: hi, Lo: lo} }

func n(whole int64) api.Fix { return of(whole, 0) }

func at(x, y api.Fix) api.Vec { return api.Vec{X: x, Y: y} }

func v(x, y int64) api.Vec { return at(n(x), n(y)) }

// power is 2^n.
func power(n uint) *big.Int { return new(big.Int).Lsh(big.NewInt(1), n) }

// units are a, in parts of 2^64, as a number without limits.
func units(a api.Fix) *big.Int {
	n := new(big.Int).Lsh(big.NewInt(a.Hi), 64)
	return n.Add(n, new(big.Int).SetUint64(a.Lo))
}

// ofUnits is the answer that a step must tell for n: none from 2^63 on, on either side.
func ofUnits(n *big.Int) (api.Fix, api.Errno) {
	if n.CmpAbs(power(127)) >= 0 {
		return nought, api.ErrOver
	}
	hi := new(big.Int).Rsh(n, 64)
	lo := new(big.Int).Sub(n, new(big.Int).Lsh(hi, 64))
	return of(hi.Int64(), lo.Uint64()), api.OK
}

// near is the whole number nearest to a over b: where the rest is half of b, or more, one farther from nought.
func near(a, b *big.Int) *big.Int {
	q, r := new(big.Int).QuoRem(a, b, new(big.Int))
	if r.Lsh(r, 1).CmpAbs(b) >= 0 {
		q.Add(q, big.NewInt(int64(a.Sign()*b.Sign())))
	}
	return q
}

// words are a row of numbers that look like any.
type words uint64

func (w *words) word() uint64 {
	*w += 0x9e3779b97f4a7c15
	n := uint64(*w)
	n = (n ^ n>>30) * 0xbf58476d1ce4e5b9
	n = (n ^ n>>27) * 0x94d049bb133111eb
	return n ^ n>>31
}

// fix is a number from 0 to the whole one, or next below that, of any length.
func (w *words) fix(whole uint) api.Fix {
	n := new(big.Int).SetUint64(w.word())
	n.Lsh(n, 64).Or(n, new(big.Int).SetUint64(w.word()))
	n.Rsh(n, 64-whole+uint(w.word()%uint64(64+whole)))
	a, _ := ofUnits(n)
	return a
}

// coordinate is a place of one axis that may be, at an end of it at times.
func (w *words) coordinate() api.Fix {
	a := w.fix(30)
	if w.word()%16 == 0 {
		a = n(1 << 30)
	}
	if w.word()%2 == 0 {
		a, _ = ofUnits(new(big.Int).Neg(units(a)))
	}
	return a
}

// mass is one that may be, the least or the greatest at times.
func (w *words) mass() api.Fix {
	switch w.word() % 16 {
	case 0:
		return of(0, 1<<48)
	case 1:
		return n(1 << 20)
	}
	a, _ := ofUnits(new(big.Int).Add(units(w.fix(20)), power(48)))
	if a.Hi >= 1<<20 {
		return n(1 << 20)
	}
	return a
}

// anyFix is a number of any bits, even such as may not be.
func (w *words) anyFix() api.Fix {
	switch w.word() % 8 {
	case 0:
		return nought
	case 1:
		return n(math.MinInt64)
	case 2:
		return n(math.MaxInt64)
	case 3:
		return n(-1)
	}
	return of(int64(w.word())>>(w.word()%64), w.word())
}
