package limb

import "perigee/api"

// Shl tells a times 2^n modulo 2^256; of n below 0: a. Of n from 256 on no word
// is left to be moved.
func Shl(a api.Four, n int) api.Four {
	if n <= 0 {
		return a
	}
	from, by := words(a), n%64
	var to [4]uint64
	for i := n / 64; i < 4; i++ {
		to[i] = from[i-n/64] << by
		if i > n/64 {
			// Of by 0 this is a shift by 64, which leaves nothing, as it should.
			to[i] |= from[i-n/64-1] >> (64 - by)
		}
	}
	return fourOfWords(to)
}

// Shr tells a over 2^n without its rest; of n below 0: a. Of n from 256 on no
// word is left to be moved.
func Shr(a api.Four, n int) api.Four {
	if n <= 0 {
		return a
	}
	from, by := words(a), n%64
	var to [4]uint64
	for i := n / 64; i < 4; i++ {
		to[i-n/64] |= from[i] >> by
		if i > n/64 {
			to[i-n/64-1] |= from[i] << (64 - by)
		}
	}
	return fourOfWords(to)
}

func words(a api.Four) [4]uint64 {
	return [4]uint64{a.Lo.Lo, a.Lo.Hi, a.Hi.Lo, a.Hi.Hi}
}

func fourOfWords(w [4]uint64) api.Four {
	return api.Four{Hi: api.Two{Hi: w[3], Lo: w[2]}, Lo: api.Two{Hi: w[1], Lo: w[0]}}
}
