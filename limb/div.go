package limb

import "perigee/api"

// Div tells the greatest q such that q times b is at most a, and a less that;
// false: b is nought.
func Div(a api.Four, b api.Two) (q api.Four, r api.Two, ok bool) {
	if b == (api.Two{}) {
		return api.Four{}, api.Two{}, false
	}
	// With b's top bit set, what the highest halves tell of a half of the
	// quotient is at most two too much.
	up := 128 - Len(api.Four{Lo: b})
	by := halvesOfTwo(Shl(api.Four{Lo: b}, up).Lo)
	rest := dividend(a, up)
	var quotient [8]uint32
	for i := 7; i >= 0; i-- {
		quotient[i] = takeOut(rest[i:i+5], by)
	}
	low := twoOf([4]uint32{rest[0], rest[1], rest[2], rest[3]})
	return fourOf(quotient), Shr(api.Four{Lo: low}, up).Lo, true
}

// dividend tells a times 2^up, of which up to 127 bits stand above a Four.
func dividend(a api.Four, up int) (h [12]uint32) {
	low := Shl(a, up)
	for i, two := range [3]api.Two{low.Lo, low.Hi, Shr(a, 256-up).Lo} {
		part := halvesOfTwo(two)
		copy(h[4*i:], part[:])
	}
	return h
}

// takeOut takes by out of rest, five halves, as often as it can, and tells how
// often. The upper four of rest are below by: so that is one half.
func takeOut(rest []uint32, by [4]uint32) uint32 {
	times := guess(rest, by)
	if times != 0 && takeTimes(rest, by, times) {
		times--
		giveBack(rest, by)
	}
	return uint32(times)
}

// guess tells how often by is in rest, or, seldom, one more.
func guess(rest []uint32, by [4]uint32) uint64 {
	top, next := uint64(by[3]), uint64(by[2])
	upper := join(rest[3], rest[4])
	times, left := upper/top, upper%top
	for times>>32 != 0 || times*next > left<<32|uint64(rest[2]) {
		times--
		left += top
		if left>>32 != 0 {
			break
		}
	}
	return times
}

// takeTimes takes by out of rest so many times, and tells whether that was too
// often: then rest is what it is modulo 2^160.
func takeTimes(rest []uint32, by [4]uint32, times uint64) bool {
	var over, under uint32
	for i, h := range by {
		var part uint32
		part, over = split(times*uint64(h) + uint64(over))
		rest[i], under = subHalf(rest[i], part, under)
	}
	rest[4], under = subHalf(rest[4], over, under)
	return under != 0
}

func giveBack(rest []uint32, by [4]uint32) {
	var over uint32
	for i, h := range by {
		rest[i], over = split(uint64(rest[i]) + uint64(h) + uint64(over))
	}
	rest[4] += over
}

func subHalf(a, b, borrow uint32) (rest, under uint32) {
	rest, high := split(uint64(a) - uint64(b) - uint64(borrow))
	return rest, high & 1
}
