package vec

import (
	"perigee/api"
	"perigee/fix"
)

// each tells the step of both X, and that of both Y; an error of X counts
// ahead of one of Y.
func each(step func(a, b api.Fix) (api.Fix, api.Errno), a, b api.Vec) (api.Vec, api.Errno) {
	x, e := step(a.X, b.X)
	if e != api.OK {
		return api.Vec{}, e
	}
	y, e := step(a.Y, b.Y)
	if e != api.OK {
		return api.Vec{}, e
	}
	return api.Vec{X: x, Y: y}, api.OK
}

// measured holds what ways span that were measured in a call. It ends with the
// call: no promise needs it longer.
type measured map[api.Vec]api.Fix

// spanned tells X of the way times its Y: the same way is measured but once.
// What is beyond the numbers is not kept, for it ends the call.
func (m measured) spanned(way api.Vec) (api.Fix, api.Errno) {
	if span, ok := m[way]; ok {
		return span, api.OK
	}
	span, e := fix.Mul(way.X, way.Y)
	if e != api.OK {
		return api.Fix{}, e
	}
	m[way] = span
	return span, api.OK
}
