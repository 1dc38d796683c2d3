package pair

import (
	"perigee/api"
	"perigee/fix"
)

// pull is one that is being made: so strong so far, and times so many.
type pull struct {
	strong api.Fix
	times  api.Fix
}

// pulls holds how strong those became that were made in a call. It ends with
// the call: no promise needs it longer.
type pulls map[pull]api.Fix

// grown tells how strong p becomes: the same is made but once, as where masses
// and times are 1. What is beyond the numbers is not kept, for it ends the call.
func (made pulls) grown(p pull) (api.Fix, api.Errno) {
	if strong, ok := made[p]; ok {
		return strong, api.OK
	}
	strong, e := fix.Mul(p.strong, p.times)
	if e != api.OK {
		return api.Fix{}, e
	}
	made[p] = strong
	return strong, api.OK
}

// strength tells how strongly two bodies pull in a time h, wherever they are:
// a times b, g times that, and that times h.
func strength(g, a, b, h api.Fix) (api.Fix, api.Errno) {
	made, strong := pulls{}, a
	for _, times := range [...]api.Fix{b, g, h} {
		more, e := made.grown(pull{strong: strong, times: times})
		if e != api.OK {
			return api.Fix{}, e
		}
		strong = more
	}
	return strong, api.OK
}
