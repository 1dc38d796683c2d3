package fix_test

import (
	"math"
	"math/big"

	"perigee/api"
	"perigee/fix"
)

const most = 1<<64 - 1

var (
	least    = api.Fix{Hi: math.MinInt64}
	lowest   = api.Fix{Hi: math.MinInt64, Lo: 1}
	greatest = api.Fix{Hi: math.MaxInt64, Lo: most}
)

func of(hi int64, lo uint64) api.Fix { return api.Fix{Hi: hi, Lo: lo} }

// power is 2^n.
func power(n uint) *big.Int { return new(big.Int).Lsh(big.NewInt(1), n) }

// units are a, in parts of 2^64, as a number without limits.
func units(a api.Fix) *big.Int {
	n := new(big.Int).Lsh(big.NewInt(a.Hi), 64)
	return n.Add(n, new(big.Int).SetUint64(a.Lo))
}

// ofUnits is the answer that a call must tell for n: none from 2^63 on, on either side.
func ofUnits(n *big.Int) (api.Fix, api.Errno) {
	if n.CmpAbs(power(127)) >= 0 {
		return api.Fix{}, api.ErrOver
	}
	hi := new(big.Int).Rsh(n, 64)
	lo := new(big.Int).Sub(n, new(big.Int).Lsh(hi, 64))
	return api.Fix{Hi: hi.Int64(), Lo: lo.Uint64()}, api.OK
}

// near is the whole number nearest to a over b: where the rest is half of b, or more, one farther from nought.
func near(a, b *big.Int) *big.Int {
	q, r := new(big.Int).QuoRem(a, b, new(big.Int))
	if r.Lsh(r, 1).CmpAbs(b) >= 0 {
		q.Add(q, big.NewInt(int64(a.Sign()*b.Sign())))
	}
	return q
}

// edges are the numbers that may be whose words are at an edge, or next to one.
func edges() []api.Fix {
	var l []api.Fix
	for _, hi := range []int64{math.MinInt64, math.MinInt64 + 1, -1 << 62, -1<<62 - 1, -1 << 32, -3, -2, -1, 0, 1, 2, 3, 1<<31 - 1, 1 << 32, 1<<62 - 1, 1 << 62, math.MaxInt64 - 1, math.MaxInt64} {
		for _, lo := range []uint64{0, 1, 2, 3, 1<<32 - 1, 1 << 32, 1<<63 - 1, 1 << 63, 1<<63 + 1, most - 1, most} {
			if a := of(hi, lo); a != least {
				l = append(l, a)
			}
		}
	}
	return l
}

// words are a row of numbers that look like any.
type words uint64

func (w *words) word() uint64 {
	*w += 0x9e3779b97f4a7c15
	n := uint64(*w)
	n = (n ^ n>>30) * 0xbf58476d1ce4e5b9
	n = (n ^ n>>27) * 0x94d049bb133111eb
	return n ^ n>>31
}

// fix is a number that may be, of any length and of either sign.
func (w *words) fix() api.Fix {
	n := new(big.Int).SetUint64(w.word())
	n.Lsh(n, 64).Or(n, new(big.Int).SetUint64(w.word()))
	n.Rsh(n, uint(1+w.word()%128))
	if w.word()%2 == 0 {
		n.Neg(n)
	}
	a, _ := ofUnits(n)
	return a
}

// rows are many pairs of numbers: those at edges, and some like any.
func rows(each func(a, b api.Fix)) {
	l := edges()
	for _, a := range l {
		for _, b := range l {
			each(a, b)
		}
	}
	var w words = 1
	for range 50000 {
		each(w.fix(), w.fix())
	}
}

// neg turns a about without the calls that are tested.
func neg(a api.Fix) api.Fix {
	n, e := ofUnits(new(big.Int).Neg(units(a)))
	if e != api.OK {
		panic("there is no such number")
	}
	return n
}

// calls are those of two numbers whose answers are numbers, by their names.
func calls() map[string]func(a, b api.Fix) (api.Fix, api.Errno) {
	return map[string]func(a, b api.Fix) (api.Fix, api.Errno){"Add": fix.Add, "Sub": fix.Sub, "Mul": fix.Mul, "Div": fix.Div}
}
