package direct_test

import (
	"math"
	"math/big"

	"perigee/api"
)

const (
	most = 1<<64 - 1
	half = 1 << 63 // behind the point
)

var (
	least    = api.Fix{Hi: math.MinInt64}
	lowest   = api.Fix{Hi: math.MinInt64, Lo: 1}
	greatest = api.Fix{Hi: math.MaxInt64, Lo: most}
	nought   = api.Fix{}
	part     = of(0, 1)
	below    = of(-1, most)
)

func of(hi int64, lo uint64) api.Fix { return api.Fix{Hi: hi, Lo: lo} }

func n(whole int64) api.Fix { return of(whole, 0) }

func at(x, y api.Fix) api.Vec { return api.Vec{X: x, Y: y} }

func v(x, y int64) api.Vec { return at(n(x), n(y)) }

// power is 2^n.
func power(n uint) *big.Int { return new(big.Int).Lsh(big.NewInt(1), n) }

// units are a, in parts of 2^64, as a number without limits.
func units(a api.Fix) *big.Int {
	n := new(big.Int).Lsh(big.NewInt(a.Hi), 64)
	return n.Add(n, new(big.Int).SetUint64(a.Lo))
}

// ofUnits is n as a number, and whether it may be: none may from 2^63 on, on either side.
func ofUnits(n *big.Int) (api.Fix, bool) {
	if n.CmpAbs(power(127)) >= 0 {
		return nought, false
	}
	hi := new(big.Int).Rsh(n, 64)
	lo := new(big.Int).Sub(n, new(big.Int).Lsh(hi, 64))
	return of(hi.Int64(), lo.Uint64()), true
}

// plus is a number that may be and some parts more.
func plus(a api.Fix, parts int64) api.Fix {
	sum, _ := ofUnits(new(big.Int).Add(units(a), big.NewInt(parts)))
	return sum
}

func neg(a api.Fix) api.Fix {
	turned, _ := ofUnits(new(big.Int).Neg(units(a)))
	return turned
}

func about(a api.Vec) api.Vec { return at(neg(a.X), neg(a.Y)) }

// words are a row of numbers that look like any.
type words uint64

func (w *words) word() uint64 {
	*w += 0x9e3779b97f4a7c15
	n := uint64(*w)
	n = (n ^ n>>30) * 0xbf58476d1ce4e5b9
	n = (n ^ n>>27) * 0x94d049bb133111eb
	return n ^ n>>31
}

// positive is a number of at most that many bits, of any length, not below nought.
func (w *words) positive(bits uint64) api.Fix {
	n := new(big.Int).SetUint64(w.word())
	n.Lsh(n, 64).Or(n, new(big.Int).SetUint64(w.word()))
	n.Rsh(n, uint(128-bits+w.word()%bits))
	a, _ := ofUnits(n)
	return a
}

// fix is a number that may be, of at most that many bits, of either sign.
func (w *words) fix(bits uint64) api.Fix {
	a := w.positive(bits)
	if w.word()%2 == 0 {
		return neg(a)
	}
	return a
}

// way is one of numbers of at most that many bits.
func (w *words) way(bits uint64) api.Vec { return at(w.fix(bits), w.fix(bits)) }

// anyFix is a number of any bits, even such as may not be.
func (w *words) anyFix() api.Fix {
	switch w.word() % 8 {
	case 0:
		return nought
	case 1:
		return least
	case 2:
		return greatest
	case 3:
		return lowest
	}
	return of(int64(w.word())>>(w.word()%64), w.word())
}

// ends are numbers that may be, at an edge or next to one.
func ends() []api.Fix {
	return []api.Fix{nought, part, below, of(0, 1<<48), of(-1, half), n(1), n(-1), n(1 << 20), n(1 << 30), n(-1 << 30), n(1 << 31), n(1 << 62), n(-1 << 62), greatest, lowest}
}
