package turn_test

import (
	"math"
	"math/big"

	"perigee/api"
)

const most = 1<<64 - 1

// An angle's parts: a full turn, half of it, a quarter, half of a quarter.
const (
	whole   = 65536
	about   = 32768
	quarter = 16384
	eighth  = 8192
)

var (
	least    = api.Fix{Hi: math.MinInt64}
	lowest   = api.Fix{Hi: math.MinInt64, Lo: 1}
	greatest = api.Fix{Hi: math.MaxInt64, Lo: most}
	nought   = api.Fix{}
)

func of(hi int64, lo uint64) api.Fix { return api.Fix{Hi: hi, Lo: lo} }

func n(whole int64) api.Fix { return of(whole, 0) }

func at(x, y api.Fix) api.Vec { return api.Vec{X: x, Y: y} }

func v(x, y int64) api.Vec { return at(n(x), n(y)) }

// power is 2^n.
func power(n uint) *big.Int { return new(big.Int).Lsh(big.NewInt(1), n) }

// units are a, in parts of 2^64, as a number without limits.
func units(a api.Fix) *big.Int {
	n := new(big.Int).Lsh(big.NewInt(a.Hi), 64)
	return n.Add(n, new(big.Int).SetUint64(a.Lo))
}

// ofUnits is the answer that a step must tell for n: none from 2^63 on, on either side.
func ofUnits(n *big.Int) (api.Fix, api.Errno) {
	if n.CmpAbs(power(127)) >= 0 {
		return api.Fix{}, api.ErrOver
	}
	hi := new(big.Int).Rsh(n, 64)
	lo := new(big.Int).Sub(n, new(big.Int).Lsh(hi, 64))
	return of(hi.Int64(), lo.Uint64()), api.OK
}

// sure is the answer for what a test knows to be a number.
func sure(n *big.Int) api.Fix {
	a, e := ofUnits(n)
	if e != api.OK {
		panic("there is no such number")
	}
	return a
}

func neg(a api.Fix) api.Fix { return sure(new(big.Int).Neg(units(a))) }

// times is the product, in parts of 2^64: the nearest, of two as near that farther from nought.
func times(a, b *big.Int) *big.Int {
	p := new(big.Int).Mul(a, b)
	sign := p.Sign()
	p.Abs(p).Add(p, power(63)).Rsh(p, 64)
	return p.Mul(p, big.NewInt(int64(sign)))
}

// words are a row of numbers that look like any.
type words uint64

func (w *words) word() uint64 {
	*w += 0x9e3779b97f4a7c15
	n := uint64(*w)
	n = (n ^ n>>30) * 0xbf58476d1ce4e5b9
	n = (n ^ n>>27) * 0x94d049bb133111eb
	return n ^ n>>31
}

func (w *words) angle() int { return int(w.word()) }

// fix is a number that may be, of at most that many bits, of any length and of either sign.
func (w *words) fix(bits uint64) api.Fix {
	n := new(big.Int).SetUint64(w.word())
	n.Lsh(n, 64).Or(n, new(big.Int).SetUint64(w.word()))
	n.Rsh(n, uint(128-bits+w.word()%bits))
	if w.word()%2 == 0 {
		n.Neg(n)
	}
	a, _ := ofUnits(n)
	return a
}

func (w *words) vec(bits uint64) api.Vec { return at(w.fix(bits), w.fix(bits)) }

// ends are numbers that may be, at an edge or next to one.
func ends() []api.Fix {
	return []api.Fix{nought, of(0, 1), of(-1, most), of(0, 1<<63), of(-1, 1<<63), n(1), n(-1), of(1, 1), of(-2, most), n(3), n(-7), n(1 << 62), n(-1 << 62), greatest, lowest}
}

// ways are all of two ends.
func ways() []api.Vec {
	var l []api.Vec
	for _, x := range ends() {
		for _, y := range ends() {
			l = append(l, at(x, y))
		}
	}
	return l
}

// angles are those at an edge, and one less and one more: of quarters, below nought, beyond a turn, of each bit alone, of
// all bits, and of all bits but one.
func angles() []int {
	l := []int{math.MinInt64, math.MinInt64 + 1, math.MinInt64 + quarter, math.MaxInt64 - quarter, math.MaxInt64 - 1, math.MaxInt64}
	for a := -2 * whole; a <= 2*whole; a += quarter {
		l = append(l, a-1, a, a+1)
	}
	for bit := range 16 {
		l = append(l, 1<<bit, -1<<bit, whole-1-1<<bit, quarter-1-1<<bit, 1<<bit+1<<40, 1<<bit-1<<40)
	}
	for bit := 16; bit < 63; bit++ {
		l = append(l, 1<<bit, -1<<bit, 1<<bit-1, 1<<bit+eighth, -1<<bit+3)
	}
	return l
}
