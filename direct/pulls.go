package direct

import (
	"perigee/api"
	"perigee/pair"
	"perigee/vec"
)

// couple is two bodies, each by its place in the world's list: the lower one
// ahead, so that two bodies are one key.
type couple [2]int

// pulls are those of a world in a time, each made when it is first asked for.
// They end with the call: no promise needs them longer.
type pulls struct {
	world api.World
	time  api.Fix
	made  map[couple]api.Vec
}

// between tells what the lower one of both gets of the other one. It is asked
// for by either, and made but once. One with an error is not kept, for it ends
// the call.
func (l *pulls) between(both couple) (api.Vec, api.Errno) {
	if pull, ok := l.made[both]; ok {
		return pull, api.OK
	}
	a, b := &l.world.Bodies[both[0]], &l.world.Bodies[both[1]]
	d, e := vec.Sub(b.X, a.X)
	if e != api.OK {
		return api.Vec{}, e
	}
	pull, e := pair.Pull(l.world.G, a.Mass, b.Mass, d, l.world.Eps, l.time)
	if e != api.OK {
		return api.Vec{}, e
	}
	l.made[both] = pull
	return pull, api.OK
}
