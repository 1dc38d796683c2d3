package morton_test

import (
	"math"
	"math/big"

	"perigee/api"
)

const (
	mostWord = 1<<32 - 1
	most     = 1<<64 - 1
)

// The bits at even places, which are x's, and those at odd ones, which are y's.
const (
	evens = 0x5555555555555555
	odds  = 0xaaaaaaaaaaaaaaaa
)

var (
	least    = api.Fix{Hi: math.MinInt64}
	lowest   = api.Fix{Hi: math.MinInt64, Lo: 1}
	greatest = api.Fix{Hi: math.MaxInt64, Lo: most}
)

func of(hi int64, lo uint64) api.Fix { return api.Fix{Hi: hi, Lo: lo} }

func n(whole int64) api.Fix { return of(whole, 0) }

func at(x, y api.Fix) api.Vec { return api.Vec{X: x, Y: y} }

// keyOf is what Key must tell, worked out bit by bit without limits.
func keyOf(x, y uint32) uint64 {
	key := new(big.Int)
	for i := range 32 {
		key.SetBit(key, 2*i, uint(x>>i&1))
		key.SetBit(key, 2*i+1, uint(y>>i&1))
	}
	return key.Uint64()
}

// cellOf is what Cell must tell of one number, worked out without limits.
func cellOf(a api.Fix) uint32 {
	units := new(big.Int).Lsh(big.NewInt(a.Hi), 64)
	units.Add(units, new(big.Int).SetUint64(a.Lo))
	// Of a divisor above nought Div leaves a rest that is never below it: so it tells the floor.
	cell := units.Div(units, new(big.Int).Lsh(big.NewInt(1), 64))
	cell.Add(cell, big.NewInt(1<<31))
	if cell.Sign() < 0 {
		return 0
	}
	if cell.BitLen() > 32 {
		return mostWord
	}
	return uint32(cell.Uint64())
}

// words are a row of numbers that look like any.
type words uint64

func (w *words) word() uint64 {
	*w += 0x9e3779b97f4a7c15
	n := uint64(*w)
	n = (n ^ n>>30) * 0xbf58476d1ce4e5b9
	n = (n ^ n>>27) * 0x94d049bb133111eb
	return n ^ n>>31
}

// fix is a number that may be, of either sign, whose whole part is of any length.
func (w *words) fix() api.Fix {
	a := of(int64(w.word())>>(w.word()%64), w.word())
	if a == least {
		return lowest
	}
	return a
}

// near is a number within the cells, or not far beyond.
func (w *words) near() api.Fix { return of(int64(w.word())>>30, w.word()) }

// coordinates are at edges of what x and y may be: each bit alone, all but it, all below it, none and all of them.
func coordinates() []uint32 {
	l := []uint32{0, 1, 2, 3, 5, 6, mostWord - 1, mostWord, 1<<31 - 1, 1 << 31, 1<<31 + 1, 1<<16 - 1, 1 << 16, 0x55555555, 0xaaaaaaaa, 0x33333333, 0x0f0f0f0f, 0x00ff00ff, 0x12345678}
	for i := range 32 {
		l = append(l, 1<<i, mostWord^1<<i, 1<<i-1)
	}
	return l
}

// keys are at edges of what a key may be, as coordinates are.
func keys() []uint64 {
	l := []uint64{0, 1, 2, 3, 5, 10, most - 1, most, 1<<63 - 1, 1 << 63, 1<<63 + 1, 1<<32 - 1, 1 << 32, evens, odds, 0x123456789abcdef0}
	for i := range 64 {
		l = append(l, 1<<i, most^1<<i, 1<<i-1)
	}
	return l
}

// numbers may be, and are at a whole number, or next to one: about nought, both ends of the cells, and both ends of the
// numbers, next to which the sum with 2^31 would be beyond an int.
func numbers() []api.Fix {
	l := []api.Fix{lowest, of(math.MinInt64, 2), of(math.MinInt64, 1<<63), of(math.MinInt64, most), of(0, 1<<63), of(-1, 1<<63), greatest}
	for _, whole := range []int64{math.MinInt64 + 1, math.MinInt64 + 1<<31, math.MinInt64 + 1<<32, -1 << 62, -1 << 33, -1 << 32, -1 << 31, -1 << 30, -7, 0, 3, 1 << 30, 1 << 31, 1 << 32, 1 << 33, 1 << 62, math.MaxInt64 - 1<<32, math.MaxInt64 - 1<<31, math.MaxInt64 - 1} {
		for _, w := range []int64{whole - 1, whole, whole + 1} {
			for _, lo := range []uint64{0, 1, 1<<63 - 1, 1 << 63, most - 1, most} {
				if a := of(w, lo); a != least {
					l = append(l, a)
				}
			}
		}
	}
	return l
}
