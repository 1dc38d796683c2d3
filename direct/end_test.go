package direct_test

import (
	"math/big"
	"testing"

	"perigee/api"
)

// extremes are what body k has at most, and at least, of all that it gets on that axis on the way, where it starts with
// nought; and whether no pull has an error.
func (a asked) extremes(k, axis int) (high, low *big.Int, ok bool) {
	is, high, low := new(big.Int), new(big.Int), new(big.Int)
	for i := range a.w.Bodies {
		if i == k {
			continue
		}
		got, stop := a.pulled(min(i, k), max(i, k))
		if stop.step != done {
			return nil, nil, false
		}
		if i < k {
			is.Sub(is, got[axis])
		} else {
			is.Add(is, got[axis])
		}
		if is.Cmp(high) > 0 {
			high.Set(is)
		}
		if is.Cmp(low) < 0 {
			low.Set(is)
		}
	}
	return high, low, true
}

// starting is a with body k's momentum on that axis.
func (a asked) starting(k, axis int, p api.Fix) asked {
	a = a.copied()
	if axis == 0 {
		a.w.Bodies[k].P.X = p
	} else {
		a.w.Bodies[k].P.Y = p
	}
	return a
}

// checkEnds holds body k of a next to the ends of the numbers on that axis, on the way and behind it; it tells whether it
// gets anything there.
func checkEnds(t *testing.T, l *tally, a asked, k, axis int) bool {
	t.Helper()
	high, low, ok := a.extremes(k, axis)
	if !ok {
		return false
	}
	first, _ := ofUnits(new(big.Int).Sub(units(greatest), high))
	last, _ := ofUnits(new(big.Int).Sub(units(lowest), low))
	for _, p := range []api.Fix{first, last, plus(first, -1), plus(last, 1)} {
		if stop := l.ask(t, a.starting(k, axis, p)); stop.step != done {
			t.Fatalf("11.1: Kick of %v ends with %v, within the numbers", a.starting(k, axis, p), stop)
		}
	}
	if high.Sign() > 0 {
		checkBeyond(t, l, a.starting(k, axis, plus(first, 1)), k, axis)
	}
	if low.Sign() < 0 {
		checkBeyond(t, l, a.starting(k, axis, plus(last, -1)), k, axis)
	}
	return high.Sign() > 0 && low.Sign() < 0
}

// checkBeyond holds that body k, and no other, is the one that cannot have what it gets.
func checkBeyond(t *testing.T, l *tally, a asked, k, axis int) {
	t.Helper()
	stop := l.ask(t, a)
	added := stop.step == addX+axis && stop.i == k
	taken := stop.step == takeX+axis && stop.j == k
	if !added && !taken {
		t.Fatalf("11.1: Kick of %v ends with %v, not at body %d on axis %d", a, stop, k, axis)
	}
}

// Each body of a world, on each axis, just within the numbers and just beyond them.
func TestSumsNextToTheEnds(t *testing.T) {
	var w words = 4
	var l tally
	both := 0
	for round := range 200 {
		a := w.calm(2 + round%9)
		for k := range a.w.Bodies {
			for axis := range 2 {
				if checkEnds(t, &l, a, k, axis) {
					both++
				}
			}
		}
	}
	l.atLeast(t, addX, 200)
	if both < 200 {
		t.Errorf("11.1: %d bodies that get something on both sides are too few to say anything", both)
	}
}

// Places as far apart as numbers go, and one part farther.
func TestPlacesNextToTheEnds(t *testing.T) {
	var w words = 5
	var l tally
	for range 2000 {
		x, y := w.way(127), w.way(127)
		for _, limit := range []api.Fix{greatest, lowest} {
			for axis, one := range []*api.Fix{&x.X, &x.Y} {
				other := []*api.Fix{&y.X, &y.Y}[axis]
				was := *other
				end := new(big.Int).Add(units(*one), units(limit))
				if far, ok := ofUnits(end); ok {
					*other = far
					l.ask(t, with(n(1), n(1), n(1), two(x, y)...))
					if farther, ok := ofUnits(end.Add(end, big.NewInt(int64(units(limit).Sign())))); ok {
						*other = farther
						l.ask(t, with(n(1), n(1), n(1), two(x, y)...))
					}
				}
				*other = was
			}
		}
	}
	for _, step := range []int{subX, subY, pull} {
		if l[step] < 200 {
			t.Errorf("11.1: %d calls ended at %s, too few to say anything", l[step], names[step])
		}
	}
}
