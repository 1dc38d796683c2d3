package limb

import "perigee/api"

// A carry is worked out from the top bits of what goes in and of what comes
// out, by a shift: so it is a number at once, and no branch is taken.
func addWord(a, b, carry uint64) (sum, over uint64) {
	sum = a + b + carry
	return sum, (a&b | (a|b)&^sum) >> 63
}

func subWord(a, b, borrow uint64) (rest, under uint64) {
	rest = a - b - borrow
	return rest, (^a&b | ^(a^b)&rest) >> 63
}

func lenWord(w uint64) int {
	n := 0
	for s := 32; s > 0; s /= 2 {
		if w>>s != 0 {
			w >>= s
			n += s
		}
	}
	return n + int(w)
}

// Halves stand with the lowest one first, so that the place of a half tells
// what it counts.

func split(w uint64) (lo, hi uint32) { return uint32(w), uint32(w >> 32) }

func join(lo, hi uint32) uint64 { return uint64(hi)<<32 | uint64(lo) }

func halvesOfTwo(a api.Two) (h [4]uint32) {
	h[0], h[1] = split(a.Lo)
	h[2], h[3] = split(a.Hi)
	return h
}

func twoOf(h [4]uint32) api.Two {
	return api.Two{Hi: join(h[2], h[3]), Lo: join(h[0], h[1])}
}

func fourOf(h [8]uint32) api.Four {
	return api.Four{
		Hi: twoOf([4]uint32{h[4], h[5], h[6], h[7]}),
		Lo: twoOf([4]uint32{h[0], h[1], h[2], h[3]}),
	}
}
