package vec_test

import (
	"math"
	"math/big"

	"perigee/api"
)

const most = 1<<64 - 1

var (
	least    = api.Fix{Hi: math.MinInt64}
	lowest   = api.Fix{Hi: math.MinInt64, Lo: 1}
	greatest = api.Fix{Hi: math.MaxInt64, Lo: most}
	nought   = api.Fix{}
	part     = of(0, 1)
	below    = of(-1, most)
)

func of(hi int64, lo uint64) api.Fix { return api.Fix{Hi: hi, Lo: lo} }

func n(whole int64) api.Fix { return of(whole, 0) }

func at(x, y api.Fix) api.Vec { return api.Vec{X: x, Y: y} }

func v(x, y int64) api.Vec { return at(n(x), n(y)) }

// power is 2^n.
func power(n uint) *big.Int { return new(big.Int).Lsh(big.NewInt(1), n) }

// units are a, in parts of 2^64, as a number without limits.
func units(a api.Fix) *big.Int {
	n := new(big.Int).Lsh(big.NewInt(a.Hi), 64)
	return n.Add(n, new(big.Int).SetUint64(a.Lo))
}

// ofUnits is the answer that a step must tell for n: none from 2^63 on, on either side.
func ofUnits(n *big.Int) (api.Fix, api.Errno) {
	if n.CmpAbs(power(127)) >= 0 {
		return api.Fix{}, api.ErrOver
	}
	hi := new(big.Int).Rsh(n, 64)
	lo := new(big.Int).Sub(n, new(big.Int).Lsh(hi, 64))
	return of(hi.Int64(), lo.Uint64()), api.OK
}

// The steps of chapter 2, worked out without the package that is stood on.

func negStep(a api.Fix) api.Fix {
	n, e := ofUnits(new(big.Int).Neg(units(a)))
	if e != api.OK {
		panic("there is no such number")
	}
	return n
}

func addStep(a, b api.Fix) (api.Fix, api.Errno) {
	return ofUnits(new(big.Int).Add(units(a), units(b)))
}

func subStep(a, b api.Fix) (api.Fix, api.Errno) {
	return ofUnits(new(big.Int).Sub(units(a), units(b)))
}

// mulStep rounds to the nearest, of two as near to that farther from nought.
func mulStep(a, b api.Fix) (api.Fix, api.Errno) {
	p := new(big.Int).Mul(units(a), units(b))
	up := p.Sign()
	p.Abs(p).Add(p, power(63)).Rsh(p, 64)
	return ofUnits(p.Mul(p, big.NewInt(int64(up))))
}

func rootStep(a api.Fix) (api.Fix, api.Errno) {
	n := units(a)
	if n.Sign() < 0 {
		return api.Fix{}, api.ErrArg
	}
	return ofUnits(n.Sqrt(n.Lsh(n, 64)))
}

// words are a row of numbers that look like any.
type words uint64

func (w *words) word() uint64 {
	*w += 0x9e3779b97f4a7c15
	n := uint64(*w)
	n = (n ^ n>>30) * 0xbf58476d1ce4e5b9
	n = (n ^ n>>27) * 0x94d049bb133111eb
	return n ^ n>>31
}

// fix is a number that may be, of at most that many bits, of any length and of either sign.
func (w *words) fix(bits uint64) api.Fix {
	n := new(big.Int).SetUint64(w.word())
	n.Lsh(n, 64).Or(n, new(big.Int).SetUint64(w.word()))
	n.Rsh(n, uint(128-bits+w.word()%bits))
	if w.word()%2 == 0 {
		n.Neg(n)
	}
	a, _ := ofUnits(n)
	return a
}

func (w *words) vec(bits uint64) api.Vec {
	a := at(w.fix(bits), w.fix(bits))
	// Parts that are alike are an edge of their own: what was measured is found again.
	if w.word()%8 == 0 {
		a.Y = a.X
	}
	return a
}

// ends are numbers that may be, at an edge or next to one.
func ends() []api.Fix {
	return []api.Fix{nought, part, below, of(0, 1<<63), of(-1, 1<<63), n(1), n(-1), of(1, 1), n(2), n(-3), n(1 << 31), n(-1 << 32), n(1 << 62), of(1<<62-1, most), n(-1 << 62), greatest, lowest}
}

// places are all of two ends.
func places() []api.Vec {
	var l []api.Vec
	for _, x := range ends() {
		for _, y := range ends() {
			l = append(l, at(x, y))
		}
	}
	return l
}

// pairs are many pairs of places: those at edges, and some like any, long and short.
func pairs(each func(a, b api.Vec)) {
	l := places()
	for _, a := range l {
		for _, b := range l {
			each(a, b)
		}
	}
	var w words = 1
	for i := range 30000 {
		bits := []uint64{127, 95, 64}[i%3]
		each(w.vec(bits), w.vec(bits))
	}
}

// around calls each with the numbers that may be of n, and of what is next to it, on both sides of nought.
func around(n *big.Int, each func(a api.Fix)) {
	for i := int64(-2); i <= 2; i++ {
		m := new(big.Int).Add(n, big.NewInt(i))
		for range 2 {
			if a, e := ofUnits(m); e == api.OK {
				each(a)
			}
			m.Neg(m)
		}
	}
}
