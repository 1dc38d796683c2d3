package mass

import (
	"perigee/api"
	"perigee/fix"
)

// sum is what bodies have together, and where they are in the middle.
type sum struct {
	mass api.Fix
	at   api.Vec
}

// span is which bodies a sum is of: those from from on, below to.
type span struct {
	from int
	to   int
}

// sums are those that were made in a call. They end with the call: no promise
// needs them longer.
type sums map[span]sum

// of tells the sum of the bodies of s: the same is made but once, as a kid that
// has all bodies of its node would have it made at each level. What has an
// error is not kept, for it ends the call.
func (made sums) of(bodies []api.Body, s span) (sum, api.Errno) {
	if known, ok := made[s]; ok {
		return known, api.OK
	}
	fresh, e := added(bodies[s.from:s.to])
	if e != api.OK {
		return sum{}, e
	}
	made[s] = fresh
	return fresh, api.OK
}

// spanOf tells which of n bodies are the node's: of those that there are not,
// none.
func spanOf(node api.Node, n int) span {
	from := min(max(node.From, 0), n)
	return span{from: from, to: min(max(node.To, from), n)}
}

// inOrder tells the bodies of l in the order of by; in the place of one that
// there is not is one without mass, which adds nothing.
func inOrder(by []api.Keyed, l []api.Body) []api.Body {
	bodies := make([]api.Body, len(by))
	for i, k := range by {
		if k.Id >= 0 && k.Id < len(l) {
			bodies[i] = l[k.Id]
		}
	}
	return bodies
}

func added(l []api.Body) (sum, api.Errno) {
	if len(l) == 0 {
		return sum{}, api.ErrArg
	}
	mass, e := total(l, func(b *api.Body) (api.Fix, api.Errno) { return b.Mass, api.OK })
	if e != api.OK {
		return sum{}, e
	}
	x, e := middle(l, mass, func(b *api.Body) api.Fix { return b.X.X })
	if e != api.OK {
		return sum{}, e
	}
	y, e := middle(l, mass, func(b *api.Body) api.Fix { return b.X.Y })
	if e != api.OK {
		return sum{}, e
	}
	return sum{mass: mass, at: api.Vec{X: x, Y: y}}, api.OK
}

// middle tells where the bodies, whose mass is mass in all, are in the middle
// of one axis, on which along tells where each is.
func middle(l []api.Body, mass api.Fix, along func(b *api.Body) api.Fix) (api.Fix, api.Errno) {
	moment, e := total(l, func(b *api.Body) (api.Fix, api.Errno) { return fix.Mul(b.Mass, along(b)) })
	if e != api.OK {
		return api.Fix{}, e
	}
	return fix.Div(moment, mass)
}

// total tells what each tells of the bodies together, added to nought in their
// order: with another order another step may be beyond the numbers.
func total(l []api.Body, each func(b *api.Body) (api.Fix, api.Errno)) (api.Fix, api.Errno) {
	all := api.Fix{}
	for i := range l {
		one, e := each(&l[i])
		if e != api.OK {
			return api.Fix{}, e
		}
		all, e = fix.Add(all, one)
		if e != api.OK {
			return api.Fix{}, e
		}
	}
	return all, api.OK
}
