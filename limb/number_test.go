package limb_test

import (
	"math/big"

	"perigee/api"
)

// power is 2^n.
func power(n uint) *big.Int { return new(big.Int).Lsh(big.NewInt(1), n) }

// bigTwo and bigFour are the numbers as such without limits.
func bigTwo(a api.Two) *big.Int {
	n := new(big.Int).SetUint64(a.Hi)
	return n.Lsh(n, 64).Or(n, new(big.Int).SetUint64(a.Lo))
}

func bigFour(a api.Four) *big.Int {
	n := bigTwo(a.Hi)
	return n.Lsh(n, 128).Or(n, bigTwo(a.Lo))
}

// two and four write numbers down with the highest word first.
func two(hi, lo uint64) api.Two { return api.Two{Hi: hi, Lo: lo} }

func four(a, b, c, d uint64) api.Four { return api.Four{Hi: two(a, b), Lo: two(c, d)} }

const most = 1<<64 - 1

var (
	mostTwo  = two(most, most)
	mostFour = four(most, most, most, most)
)

// edgeWords are those whose halves are at an edge, or next to one.
func edgeWords() []uint64 {
	return []uint64{0, 1, 2, 1<<31 - 1, 1 << 31, 1<<32 - 1, 1 << 32, 1<<32 + 1, 1<<63 - 1, 1 << 63, 1<<63 + 1, most - 1<<32, most - 1<<32 + 1, most - 1, most}
}

func edgeTwos() []api.Two {
	var l []api.Two
	for _, hi := range edgeWords() {
		for _, lo := range edgeWords() {
			l = append(l, two(hi, lo))
		}
	}
	return l
}

// words are a row of numbers that look like any, but have many halves at an edge.
type words uint64

func (w *words) half() uint64 {
	*w = *w*6364136223846793005 + 1442695040888963407
	n := uint64(*w) >> 29
	switch n % 8 {
	case 0:
		return 0
	case 1:
		return 1<<32 - 1
	case 2:
		return 1 << 31
	case 3:
		return n >> 3 % 3
	case 4:
		return 1<<32 - 1 - n>>3%3
	}
	return n >> 3 & (1<<32 - 1)
}

func (w *words) word() uint64   { return w.half()<<32 | w.half() }
func (w *words) two() api.Two   { return two(w.word(), w.word()) }
func (w *words) four() api.Four { return api.Four{Hi: w.two(), Lo: w.two()} }

// lengths are numbers of every length, those at an edge among them.
func lengths() []api.Four {
	l := []api.Four{{}, mostFour}
	var w words = 11
	for n := range uint(256) {
		p := power(n)
		l = append(l, ofBig(p), ofBig(p.Sub(p, big.NewInt(1))))
		some := new(big.Int).Rsh(bigFour(w.four()), 255-n)
		l = append(l, ofBig(some.SetBit(some, int(n), 1)))
	}
	return l
}

func ofBig(n *big.Int) api.Four {
	var b [32]byte
	n.FillBytes(b[:])
	var w [4]uint64
	for i, c := range b {
		w[i/8] = w[i/8]<<8 | uint64(c)
	}
	return four(w[0], w[1], w[2], w[3])
}
