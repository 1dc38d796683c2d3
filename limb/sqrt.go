package limb

import "perigee/api"

// Sqrt tells the greatest s such that s times s is at most a.
func Sqrt(a api.Four) api.Two {
	if Len(a) <= 64 {
		return api.Two{Lo: rootOfWord(a.Lo.Lo)}
	}
	s := above(a)
	// From above, the mean of s and a over s falls, but never below the root:
	// where it no longer falls s is the root.
	for {
		q, _, _ := Div(a, s)
		if Cmp(q, api.Four{Lo: s}) >= 0 {
			return s
		}
		s = mean(s, q.Lo)
	}
}

// above tells something that is not below the root of a, and not far above it:
// the root of a's upper half has the upper half of the root's bits.
func above(a api.Four) api.Two {
	n := Len(a) / 4
	root, _ := Add(Sqrt(Shr(a, 2*n)), api.Two{Lo: 1})
	s := Shl(api.Four{Lo: root}, n)
	if s.Hi != (api.Two{}) {
		return api.Two{Hi: 1<<64 - 1, Lo: 1<<64 - 1}
	}
	return s.Lo
}

// rootOfWord finds a bit of the root after the other, the highest one first,
// and has in w what is left of it.
func rootOfWord(w uint64) uint64 {
	root := uint64(0)
	for bit := uint64(1) << 62; bit != 0; bit >>= 2 {
		next := root | bit
		root >>= 1
		if w >= next {
			w -= next
			root |= bit
		}
	}
	return root
}

func mean(a, b api.Two) api.Two {
	sum, lost := Add(a, b)
	half := Shr(api.Four{Lo: sum}, 1).Lo
	if lost {
		half.Hi |= 1 << 63
	}
	return half
}
