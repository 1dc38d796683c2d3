package direct_test

import (
	"math/big"
	"slices"
	"testing"

	"perigee/api"
	"perigee/direct"
	"perigee/pair"
)

// The steps of the chapter, for each two bodies.
const (
	subX = iota
	subY
	pull
	addX
	addY
	takeX
	takeY
	done
)

// names are those of the steps at which a call may end.
var names = [done + 1]string{"X of Sub", "Y of Sub", "Pull", "X of Add", "Y of Add", "X of what is taken", "Y of what is taken", "no error"}

// end is where a call ends: its error, the step that has it, and of which two bodies.
type end struct {
	e    api.Errno
	step int
	i, j int
}

// momentum is one without limits, by X and Y.
type momentum [2]*big.Int

func parts(a api.Vec) momentum { return momentum{units(a.X), units(a.Y)} }

// beyond tells at which of X and Y m is beyond the numbers; 2: at none.
func (m momentum) beyond() int {
	return slices.IndexFunc(append(m[:], power(127)), func(a *big.Int) bool { return a.CmpAbs(power(127)) >= 0 })
}

func (m momentum) plus(k momentum) momentum {
	return momentum{new(big.Int).Add(m[0], k[0]), new(big.Int).Add(m[1], k[1])}
}

func (m momentum) less(k momentum) momentum {
	return momentum{new(big.Int).Sub(m[0], k[0]), new(big.Int).Sub(m[1], k[1])}
}

func (m momentum) vec() api.Vec {
	x, _ := ofUnits(m[0])
	y, _ := ofUnits(m[1])
	return at(x, y)
}

// pulled is what Pull tells of two bodies, and where it ends.
func (a asked) pulled(i, j int) (momentum, end) {
	one, other := a.w.Bodies[i], a.w.Bodies[j]
	d := parts(other.X).less(parts(one.X))
	if axis := d.beyond(); axis < 2 {
		return momentum{}, end{api.ErrOver, subX + axis, i, j}
	}
	k, e := pair.Pull(a.w.G, one.Mass, other.Mass, d.vec(), a.w.Eps, a.h)
	if e != api.OK {
		return momentum{}, end{e, pull, i, j}
	}
	return parts(k), end{step: done}
}

// want is what Kick must tell, and where it ends: of each two bodies what Pull tells, in sums without limits.
func (a asked) want() ([]api.Vec, end) {
	sums := make([]momentum, len(a.w.Bodies))
	for i, b := range a.w.Bodies {
		sums[i] = parts(b.P)
	}
	for i := range sums {
		for j := i + 1; j < len(sums); j++ {
			k, stop := a.pulled(i, j)
			if stop.step != done {
				return nil, stop
			}
			sums[i], sums[j] = sums[i].plus(k), sums[j].less(k)
			if axis := sums[i].beyond(); axis < 2 {
				return nil, end{api.ErrOver, addX + axis, i, j}
			}
			if axis := sums[j].beyond(); axis < 2 {
				return nil, end{api.ErrOver, takeX + axis, i, j}
			}
		}
	}
	var l []api.Vec
	for _, m := range sums {
		l = append(l, m.vec())
	}
	return l, end{step: done}
}

// together is the sum of all, without limits.
func together(l []api.Vec) momentum {
	all := momentum{new(big.Int), new(big.Int)}
	for _, p := range l {
		all = all.plus(parts(p))
	}
	return all
}

// check holds Kick of a against the steps, and against what follows; it tells where they end.
func check(t *testing.T, a asked) end {
	t.Helper()
	want, stop := a.want()
	got, e := direct.Kick(a.w, a.h)
	if !slices.Equal(got, want) || e != stop.e {
		t.Fatalf("11.1: Kick of %v = %x, %d, not %x, %d (%s of %d and %d)", a, got, e, want, stop.e, names[stop.step], stop.i, stop.j)
	}
	if e == api.OK {
		checkTogether(t, a, got)
	}
	return stop
}

// checkTogether holds that all P together stay as they were.
func checkTogether(t *testing.T, a asked, got []api.Vec) {
	t.Helper()
	was, is := together(a.momenta()), together(got)
	if was[0].Cmp(is[0]) != 0 || was[1].Cmp(is[1]) != 0 {
		t.Fatalf("11.2: all P of %v together were %x, and are %x behind Kick", a, was, is)
	}
}

// tally counts at which steps calls ended.
type tally [done + 1]int

func (l *tally) ask(t *testing.T, a asked) end {
	t.Helper()
	stop := check(t, a)
	l[stop.step]++
	return stop
}

// atLeast holds that enough calls ended at each of the steps from that one on to say something of it.
func (l *tally) atLeast(t *testing.T, from, many int) {
	t.Helper()
	for step := from; step <= done; step++ {
		if l[step] < many {
			t.Errorf("11.1: %d calls ended at %s, too few to say anything", l[step], names[step])
		}
	}
}
