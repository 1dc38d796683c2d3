package direct_test

import (
	"testing"

	"perigee/api"
	"perigee/direct"
)

// wrong is the error that Kick of a call must tell, and where it ends.
type wrong struct {
	asked
	end
}

func checkWrong(t *testing.T, l []wrong) {
	t.Helper()
	for _, c := range l {
		if stop := check(t, c.asked); stop != c.end {
			t.Errorf("11.1: Kick of %v ends with %v, not %v", c.asked, stop, c.end)
		}
		if got, e := direct.Kick(c.w, c.h); len(got) != 0 || e != c.e {
			t.Errorf("11.1: Kick of %v = %x, %d, not %d", c.asked, got, e, c.e)
		}
	}
}

// over is ErrOver at that step of the first two.
func over(step int) end { return end{api.ErrOver, step, 0, 1} }

// zero is ErrZero of the first two.
var zero = end{api.ErrZero, pull, 0, 1}

// two are at these places, neither of which has any momentum.
func two(x, y api.Vec) []api.Body { return []api.Body{body(n(1), x, v(0, 0)), body(n(1), y, v(0, 0))} }

func TestErrorOfSub(t *testing.T) {
	var l []wrong
	for _, g := range []api.Fix{nought, n(1), n(1 << 20)} {
		for _, h := range []api.Fix{nought, n(1), n(-8)} {
			l = append(l,
				wrong{with(g, n(1), h, two(v(1<<62, 0), v(-1<<62, 0))...), over(subX)},
				wrong{with(g, n(1), h, two(v(-1<<62, 0), v(1<<62, 0))...), over(subX)},
				wrong{with(g, n(1), h, two(at(part, nought), at(lowest, nought))...), over(subX)},
				wrong{with(g, n(1), h, two(at(greatest, nought), at(below, nought))...), over(subX)},
				wrong{with(g, n(1), h, two(v(0, 1<<62), v(0, -1<<62))...), over(subY)},
				wrong{with(g, n(1), h, two(at(nought, below), at(nought, greatest))...), over(subY)},
				wrong{with(g, n(1), h, two(at(n(5), lowest), at(n(5), part))...), over(subY)},
				wrong{with(g, n(1), h, two(at(lowest, lowest), at(greatest, greatest))...), over(subX)},
				// Just within: so far away that it is Pull that tells of it.
				wrong{with(g, n(1), h, two(at(nought, nought), at(lowest, nought))...), over(pull)},
				wrong{with(g, n(1), h, two(at(greatest, greatest), at(nought, nought))...), over(pull)},
			)
		}
	}
	checkWrong(t, l)
}

func TestErrorOfPull(t *testing.T) {
	heavy := func(x, y int64) api.Body { return whole(api.MaxMass, x, y, 1, 2) }
	same := v(7, -7)
	checkWrong(t, []wrong{
		{with(n(1), nought, n(1), two(same, same)...), zero},
		{with(nought, nought, nought, two(same, same)...), zero},
		{with(n(1), nought, n(1), two(same, at(plus(n(7), 1), n(-7)))...), zero},
		{with(n(1), part, n(1), two(same, same)...), zero},
		{with(n(1<<20), nought, n(8), heavy(0, 0), heavy(1, 0)), over(pull)},
		{with(n(1<<20), nought, n(8), heavy(0, 0), heavy(0, 0)), over(pull)},
		{with(n(1<<20), n(1<<16), n(-8), heavy(0, 0), heavy(1<<30, 1<<30)), over(pull)},
		{with(n(1<<20), nought, of(0, half), two(same, at(n(7), of(-7, 1<<32)))...), over(pull)},
		{with(n(1), n(1<<32), n(1), two(v(0, 0), v(1, 0))...), over(pull)},
		{with(n(1), nought, n(1), two(v(1<<31, 0), v(-1<<31, 0))...), over(pull)},
	})
	// Just within.
	checkTold(t, []told{
		{with(n(1<<20), nought, n(4), heavy(0, 0), heavy(1, 0)), ways(v(1+1<<62, 2), v(1-1<<62, 2))},
		{with(nought, of(0, 1<<32), n(1), two(same, same)...), ways(v(0, 0), v(0, 0))},
	})
}

// Two that get 4 of one another, along X or Y: whoever cannot have it, it is told.
func TestErrorOfSums(t *testing.T) {
	start, far := v(0, 0), []api.Vec{v(1, 0), v(0, 1)}
	for axis, x := range far {
		along := func(p api.Fix) api.Vec {
			if axis == 0 {
				return at(p, n(9))
			}
			return at(n(9), p)
		}
		kick := func(h int64, p, q api.Fix) asked {
			return with(n(4), nought, n(h), body(n(1), start, along(p)), body(n(1), x, along(q)))
		}
		high, low := of(1<<63-4, 0), of(-1<<63+4, 0)
		checkWrong(t, []wrong{
			{kick(1, high, nought), over(addX + axis)},
			{kick(1, greatest, nought), over(addX + axis)},
			{kick(-1, lowest, nought), over(addX + axis)},
			{kick(-1, low, nought), over(addX + axis)},
			{kick(1, greatest, lowest), over(addX + axis)},
			{kick(1, nought, low), over(takeX + axis)},
			{kick(1, nought, lowest), over(takeX + axis)},
			{kick(-1, nought, greatest), over(takeX + axis)},
			{kick(-1, nought, high), over(takeX + axis)},
			{kick(1, plus(high, -1), low), over(takeX + axis)},
		})
		checkTold(t, []told{
			{kick(1, plus(high, -1), plus(low, 1)), ways(along(greatest), along(lowest))},
			{kick(-1, plus(low, 1), plus(high, -1)), ways(along(lowest), along(greatest))},
			{kick(1, lowest, greatest), ways(along(plus(low, 1)), along(plus(high, -1)))},
		})
	}
	// X counts ahead of Y, and one ahead of the other, though one number says it for all.
	checkWrong(t, []wrong{
		{with(n(125), nought, n(1), body(n(1), start, at(greatest, greatest)), body(n(1), v(3, 4), at(lowest, lowest))), over(addX)},
		{with(n(125), nought, n(1), body(n(1), start, at(nought, greatest)), body(n(1), v(3, 4), at(lowest, lowest))), over(addY)},
		{with(n(125), nought, n(1), body(n(1), start, at(lowest, lowest)), body(n(1), v(3, 4), at(lowest, lowest))), over(takeX)},
		{with(n(125), nought, n(1), body(n(1), start, at(lowest, lowest)), body(n(1), v(3, 4), at(nought, lowest))), over(takeY)},
	})
}

// What a later pull would give back is not waited for.
func TestErrorOnTheWay(t *testing.T) {
	right, left := whole(1, 1, 0, 0, 0), whole(1, -1, 0, 0, 0)
	high, low := body(n(1), v(0, 0), at(greatest, nought)), body(n(1), v(0, 0), at(lowest, nought))
	ask := func(l ...api.Body) asked { return with(n(4), nought, n(1), l...) }
	checkWrong(t, []wrong{
		{ask(high, right, left), end{api.ErrOver, addX, 0, 1}},
		{ask(low, left, right), end{api.ErrOver, addX, 0, 1}},
		{ask(right, high, left), end{api.ErrOver, takeX, 0, 1}},
		{ask(left, low, right), end{api.ErrOver, takeX, 0, 1}},
		{ask(right, left, high), end{api.ErrOver, takeX, 0, 2}},
		{ask(left, right, low), end{api.ErrOver, takeX, 0, 2}},
	})
	// Those beside it get 4 of it, and 1 of one another.
	in, out := v(5, 0), v(-5, 0)
	checkTold(t, []told{
		{ask(high, left, right), ways(high.P, in, out)},
		{ask(low, right, left), ways(low.P, out, in)},
		{ask(left, high, right), ways(in, high.P, out)},
		{ask(right, low, left), ways(out, low.P, in)},
		{ask(left, right, high), ways(in, out, high.P)},
		{ask(right, left, low), ways(out, in, low.P)},
	})
}

// couples are each two of so many, by the lower one, then by the other.
func couples(many int) [][2]int {
	var l [][2]int
	for i := range many {
		for j := i + 1; j < many; j++ {
			l = append(l, [2]int{i, j})
		}
	}
	return l
}

// erring is a world of five, of which the two of near have an ErrZero, those of far an ErrOver at that step, and no others any:
// with as little as they pull, nobody else gets so much as a part.
func erring(near, far [2]int, step int) asked {
	a := with(of(0, 16), nought, n(1))
	for i := range int64(5) {
		x := v(i, 3)
		if step == addY || step == takeY {
			x = v(3, i)
		}
		a.w.Bodies = append(a.w.Bodies, body(of(0, 1<<48), x, v(0, 0)))
	}
	l := a.w.Bodies
	l[near[1]].X = l[near[0]].X
	one, other := &l[far[0]], &l[far[1]]
	one.Mass, other.Mass = n(1<<10), n(1<<10)
	switch step {
	case pull:
		one.Mass, other.Mass = n(1<<32), n(1<<31)
	case addX, addY:
		one.P = endOf(one.X, other.X)
	case takeX, takeY:
		other.P = endOf(other.X, one.X)
	}
	return a
}

// endOf is such that nothing along the way from x to y can be added to it.
func endOf(x, y api.Vec) api.Vec {
	if x.X.Hi < y.X.Hi || x.Y.Hi < y.Y.Hi {
		return at(greatest, greatest)
	}
	return at(lowest, lowest)
}

// Of two pairs that would err it is the first one's, by the lower body, then by the other.
func TestFirstOfTwoErrors(t *testing.T) {
	var l []wrong
	for first, near := range couples(5) {
		for second, far := range couples(5) {
			for _, step := range []int{pull, addX, addY, takeX, takeY} {
				if near == far {
					continue
				}
				want := end{api.ErrZero, pull, near[0], near[1]}
				if second < first {
					want = end{api.ErrOver, step, far[0], far[1]}
				}
				l = append(l, wrong{erring(near, far, step), want})
			}
		}
	}
	checkWrong(t, l)
}
