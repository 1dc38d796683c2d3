package fix

import (
	"perigee/api"
	"perigee/limb"
)

// Products, quotients, halves and whole numbers are worked out of sizes, and
// get their signs at the end: so what is turned about in sign is rounded as
// what is not.

func bits(a api.Fix) api.Two { return api.Two{Hi: uint64(a.Hi), Lo: a.Lo} }

func ofBits(t api.Two) api.Fix { return api.Fix{Hi: int64(t.Hi), Lo: t.Lo} }

// sign is a word of ones where a is below nought, else nought.
func sign(a api.Fix) uint64 { return uint64(a.Hi >> 63) }

// size is how far a is from nought, in parts of 2^64.
func size(a api.Fix) api.Two { return turn(bits(a), sign(a)) }

// turn turns t about in two's complement where sign is ones; nought leaves it.
func turn(t api.Two, sign uint64) api.Two {
	t, _ = limb.Sub(api.Two{Hi: t.Hi ^ sign, Lo: t.Lo ^ sign}, api.Two{Hi: sign, Lo: sign})
	return t
}

func turnWord(w, sign uint64) uint64 { return (w ^ sign) - sign }

// nearest is what has the size whole, and up, and that sign; ErrOver: there is
// no such number.
func nearest(whole api.Four, up, sign uint64) (api.Fix, api.Errno) {
	n, lost := limb.Add(whole.Lo, api.Two{Lo: up})
	if lost || whole.Hi != (api.Two{}) || n.Hi>>63 != 0 {
		return api.Fix{}, api.ErrOver
	}
	return ofBits(turn(n, sign)), api.OK
}
