package turn

import (
	"cmp"

	"perigee/api"
	"perigee/fix"
)

// quarter tells the direction of a quarter, of which the first half is taken.
func quarter() api.Vec { return api.Vec{Y: fix.Int(1)} }

// halved tells the direction of half the angle that d is the direction of. No
// step says an error: d's X is from 0 to 1.
func halved(d api.Vec) api.Vec {
	more, _ := fix.Add(fix.Int(1), d.X)
	less, _ := fix.Sub(fix.Int(1), d.X)
	x, _ := fix.Sqrt(fix.Half(more))
	y, _ := fix.Sqrt(fix.Half(less))
	return api.Vec{X: x, Y: y}
}

// turned tells v turned by the angle that d is the direction of; ErrOver: one
// of the steps says so.
func turned(v, d api.Vec) (api.Vec, api.Errno) {
	xc, e := fix.Mul(v.X, d.X)
	ys, f := fix.Mul(v.Y, d.Y)
	xs, g := fix.Mul(v.X, d.Y)
	yc, h := fix.Mul(v.Y, d.X)
	x, i := fix.Sub(xc, ys)
	y, j := fix.Add(xs, yc)
	if first := cmp.Or(e, f, g, h, i, j); first != api.OK {
		return api.Vec{}, first
	}
	return api.Vec{X: x, Y: y}, api.OK
}
