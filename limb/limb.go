// Package limb: wide numbers; see DOC.md, chapter 1.
package limb

import (
	"cmp"

	"perigee/api"
)

// Add tells a and b modulo 2^128, and whether something was lost.
func Add(a, b api.Two) (api.Two, bool) {
	lo, carry := addWord(a.Lo, b.Lo, 0)
	hi, carry := addWord(a.Hi, b.Hi, carry)
	return api.Two{Hi: hi, Lo: lo}, carry != 0
}

// Sub tells a less b modulo 2^128, and whether b is above a.
func Sub(a, b api.Two) (api.Two, bool) {
	lo, borrow := subWord(a.Lo, b.Lo, 0)
	hi, borrow := subWord(a.Hi, b.Hi, borrow)
	return api.Two{Hi: hi, Lo: lo}, borrow != 0
}

// Mul tells a times b, of which nothing can be lost.
func Mul(a, b api.Two) api.Four {
	x, y := halvesOfTwo(a), halvesOfTwo(b)
	var p [8]uint32
	for i, f := range x {
		var over uint32
		for j, g := range y {
			p[i+j], over = split(uint64(f)*uint64(g) + uint64(p[i+j]) + uint64(over))
		}
		p[i+4] = over
	}
	return fourOf(p)
}

// Cmp tells -1, 0 or 1: a is below b, is b, is above b.
func Cmp(a, b api.Four) int {
	return cmp.Or(cmpTwo(a.Hi, b.Hi), cmpTwo(a.Lo, b.Lo))
}

func cmpTwo(a, b api.Two) int {
	return cmp.Or(cmp.Compare(a.Hi, b.Hi), cmp.Compare(a.Lo, b.Lo))
}

// Len tells the least n such that a is less than 2^n.
func Len(a api.Four) int {
	switch {
	case a.Hi.Hi != 0:
		return 192 + lenWord(a.Hi.Hi)
	case a.Hi.Lo != 0:
		return 128 + lenWord(a.Hi.Lo)
	case a.Lo.Hi != 0:
		return 64 + lenWord(a.Lo.Hi)
	}
	return lenWord(a.Lo.Lo)
}
