package pair_test

import (
	"testing"

	"perigee/api"
)

// told is what Pull of a call must tell, without an error.
type told struct {
	call
	want api.Vec
}

func checkTold(t *testing.T, l []told) {
	t.Helper()
	for _, c := range l {
		check(t, c.call)
		if got, e := c.pull(); got != c.want || e != api.OK {
			t.Errorf("10.1: Pull of %x = %x, %d, not %x", c.call, got, e, c.want)
		}
	}
}

func TestPullByHand(t *testing.T) {
	checkTold(t, []told{
		{call{n(1), n(1), n(1), v(1, 0), n(0), n(1)}, v(1, 0)},
		{call{n(1), n(1), n(1), v(0, -1), n(0), n(1)}, v(0, -1)},
		// Twice as far away: a quarter of it.
		{call{n(1), n(1), n(1), v(2, 0), n(0), n(1)}, at(of(0, 1<<62), nought)},
		{call{n(1), n(2), n(4), v(2, 0), n(0), n(1)}, v(2, 0)},
		{call{n(125), n(1), n(1), v(3, 4), n(0), n(1)}, v(3, 4)},
		{call{n(125), n(1), n(1), v(-3, 4), n(0), n(1)}, v(-3, 4)},
		{call{n(125), n(1), n(1), v(4, -3), n(0), n(2)}, v(8, -6)},
		// Each of g, a, b, h counts once.
		{call{n(2), n(3), n(5), v(0, 1), n(0), n(7)}, v(0, 210)},
		{call{n(3), n(2), n(3), v(0, 1), n(0), n(3)}, v(0, 54)},
		{call{n(3), n(3), n(3), v(1, 0), n(0), n(3)}, v(81, 0)},
		{call{n(6), n(2), n(3), v(1, 0), n(0), n(6)}, v(216, 0)},
		{call{n(2), n(1), n(2), v(1, 0), n(0), n(4)}, v(16, 0)},
		{call{of(0, half), of(0, half), of(0, half), v(1, 0), n(0), of(0, half)}, at(of(0, 1<<60), nought)},
		// With eps as far away as if it were on an axis of its own.
		{call{n(125), n(1), n(1), v(0, 4), n(3), n(1)}, v(0, 4)},
		{call{n(343), n(1), n(1), v(2, -3), n(6), n(1)}, v(2, -3)},
		{call{n(343), n(1), n(1), v(2, -3), n(-6), n(1)}, v(2, -3)},
		// What is not as whole as that.
		{call{n(1), n(1), n(1), v(1, 1), n(0), n(1)}, at(of(0, 0x5a827999fcef3242), of(0, 0x5a827999fcef3242))},
		{call{n(1), n(1), n(1), v(3, 0), n(0), n(1)}, at(of(0, 0x1c71c71c71c71c72), nought)},
		{call{n(1), n(1), n(1), v(0, 10), n(0), n(1)}, at(nought, of(0, 0x28f5c28f5c28f60))},
		{call{n(1), n(1), n(1), v(7, -5), n(1), n(1)}, at(of(0, 0x2c24b7f1fc618b2), of(-1, 0xfe0780ee5704c9ca))},
		{call{n(2), n(3), n(5), v(2, -1), n(0), n(-7)}, at(of(-38, 0x6f1e6c7417d2e9dc), of(18, 0xc870c9c5f4168b12))},
	})
}

// Masses, a g and a time below nought are numbers as others are.
func TestPullBelowNought(t *testing.T) {
	c := call{n(2), n(3), n(5), v(3, 4), n(0), n(25)}
	for signs := range 16 {
		turned, many := c, 0
		for i, p := range []*api.Fix{&turned.g, &turned.a, &turned.b, &turned.h} {
			if signs>>i&1 != 0 {
				*p = neg(*p)
				many++
			}
		}
		want := v(18, 24)
		if many%2 != 0 {
			want = v(-18, -24)
		}
		checkTold(t, []told{{turned, want}})
	}
}

func TestPullOfNought(t *testing.T) {
	zero := v(0, 0)
	checkTold(t, []told{
		{call{n(0), n(5), n(5), v(3, 4), n(0), n(1)}, zero},
		{call{n(5), n(0), n(5), v(3, 4), n(0), n(1)}, zero},
		{call{n(5), n(5), n(0), v(3, 4), n(0), n(1)}, zero},
		{call{n(5), n(5), n(5), v(3, 4), n(0), n(0)}, zero},
		{call{n(0), n(0), n(0), v(3, 4), n(5), n(0)}, zero},
		{call{n(27), n(1), n(1), v(0, 0), n(3), n(9)}, zero},
		{call{n(0), n(0), n(0), v(0, 0), n(-3), n(0)}, zero},
		{call{n(0), greatest, n(1), v(3, 4), n(0), greatest}, zero},
	})
}

// Each step is rounded ahead of the next one.
func TestPullIsRoundedByStep(t *testing.T) {
	zero, one := v(0, 0), at(part, nought)
	small, tiny := of(0, 1<<32), of(0, 1<<31)
	checkTold(t, []told{
		// A product of half a part is one part, of less it is nought, whatever comes behind it.
		{call{n(1), small, tiny, v(1, 0), n(0), n(1)}, one},
		{call{n(1 << 40), small, of(0, 1<<31-1), v(1, 0), n(0), n(1 << 20)}, zero},
		{call{tiny, small, n(1), v(1, 0), n(0), n(1)}, one},
		{call{tiny, of(0, 1<<32-1), n(1), v(1, 0), n(0), n(1 << 60)}, zero},
		{call{small, n(1), n(1), v(0, 1), n(0), tiny}, at(nought, part)},
		{call{of(0, 1<<32-1), n(1), n(1), v(0, 1), n(0), tiny}, zero},
		// a times b comes ahead of g, and g ahead of h.
		{call{n(1 << 40), part, part, v(1, 0), n(0), n(1)}, zero},
		{call{part, part, n(1 << 40), v(1, 0), n(0), n(1)}, zero},
		{call{part, n(1 << 40), n(1 << 22), v(1, 0), n(0), of(0, 4)}, one},
		{call{part, n(1 << 40), n(1), v(1, 0), n(0), part}, zero},
		{call{n(1), part, n(1), v(1, 0), n(0), n(1 << 40)}, at(of(0, 1<<40), nought)},
		// Over r2 first, then over r: half a part twice, of which a fourth is left in all.
		{call{of(0, 2), n(1), n(1), v(2, 0), n(0), n(1)}, at(of(0, 2), nought)},
		{call{part, n(1), n(1), v(2, 0), n(0), n(1)}, zero},
		{call{of(0, 2), n(1), n(1), v(0, -2), n(0), n(-1)}, at(nought, of(0, 2))},
		{call{of(0, 3), n(1), n(1), at(of(1, half), nought), n(0), n(1)}, at(of(0, 2), nought)},
		// What comes of d is rounded by X and Y each.
		{call{n(125), n(1), part, at(of(3, half), n(4)), n(0), n(1)}, at(of(0, 4), of(0, 4))},
		{call{part, n(1), n(1), at(of(0, half), of(-1, half)), n(0), n(1)}, at(of(0, 2), of(-1, most-1))},
	})
}

// The greatest and the least numbers, in each place where they are not beyond.
func TestPullOfTheGreatest(t *testing.T) {
	root := of(1<<31-1, most) // whose square is just below 2^62
	for _, far := range []api.Fix{greatest, lowest} {
		checkTold(t, []told{
			{call{far, n(1), n(1), v(1, 0), n(0), n(1)}, at(far, nought)},
			{call{n(1), far, n(1), v(0, 1), n(0), n(1)}, at(nought, far)},
			{call{n(1), n(1), far, v(-1, 0), n(0), n(1)}, at(neg(far), nought)},
			{call{n(1), n(1), n(1), v(0, -1), n(0), far}, at(nought, neg(far))},
			{call{n(1), n(1), n(1), v(1, 0), n(0), far}, at(far, nought)},
			{call{far, n(0), n(1), v(1, 0), n(0), n(1)}, v(0, 0)},
			{call{n(1), n(1), n(0), v(1, 0), n(0), far}, v(0, 0)},
		})
	}
	for _, c := range []call{
		{greatest, n(1), n(1), at(root, nought), n(0), n(1)},
		{greatest, n(1), n(1), at(root, neg(root)), n(0), n(1)},
		{greatest, n(1), n(1), at(nought, of(0xb504f333, 0xf9de6484597d89b3)), n(0), n(-1)},
		{lowest, n(1), n(1), v(1, 0), n(0xb504f333), n(1)},
	} {
		if step := check(t, c); step != done {
			t.Errorf("10.1: Pull of %x ends with step %d", c, step)
		}
	}
}

// So near that the square of how far away it is is nought.
func TestPullOfTheNear(t *testing.T) {
	half32, under := of(0, 0xb504f334), of(0, 0xb504f333) // the least whose square is a part, and the one below
	for _, d := range []api.Vec{at(part, nought), at(nought, below), at(under, nought), at(under, neg(under))} {
		for _, c := range []call{
			{n(1), n(1), n(1), d, n(0), n(1)},
			{n(0), n(0), n(0), d, part, n(0)},
			{n(1), n(1), n(1), d, under, n(1)},
		} {
			if got, e := c.pull(); got != (api.Vec{}) || e != api.ErrZero || check(t, c) != divR2 {
				t.Errorf("10.1: Pull of %x = %x, %d", c, got, e)
			}
		}
		checkTold(t, []told{{call{n(1), n(1), n(1), d, n(1), n(1)}, d}, {call{n(8), n(1), n(1), d, n(-2), n(1)}, d}})
	}
	// A square of one part has a root of 2^-32: over both, a part is 2^32.
	checkTold(t, []told{
		{call{part, part, n(1), at(half32, nought), n(0), n(1)}, v(0, 0)},
		{call{part, n(1), n(1), at(half32, nought), n(0), n(1)}, at(of(0, 0xb504f334<<32), nought)},
		{call{part, n(1), n(1), at(nought, neg(half32)), n(0), n(1)}, at(nought, of(-1, most-0xb504f334<<32+1))},
		{call{part, n(1), n(1), at(nought, part), half32, n(1)}, at(nought, of(0, 1<<32))},
	})
}

// On one axis the other one's part is nought; who changes both for one another has it told so.
func TestPullOnEachAxis(t *testing.T) {
	var w words = 1
	count := 0
	for range 5000 {
		c := call{w.fix(84), w.fix(84), w.fix(84), at(w.fix(94), nought), w.fix(80), w.fix(74)}
		other := c.exchanged()
		got, e := c.pull()
		turned, f := other.pull()
		if got.Y != nought || turned != at(nought, got.X) || e != f {
			t.Fatalf("10.1: Pull of %x = %x, %d, of %x %x, %d", c, got, e, other, turned, f)
		}
		if got.X != nought {
			count++
		}
		check(t, c)
		c.d.Y = w.fix(94)
		got, e = c.pull()
		if turned, f = c.exchanged().pull(); turned != at(got.Y, got.X) || e != f {
			t.Fatalf("10.1: Pull of %x = %x, %d, with both axes changed for one another %x, %d", c, got, e, turned, f)
		}
		c.d.Y = c.d.X
		if got, e = c.pull(); got.X != got.Y {
			t.Fatalf("10.1: Pull of %x = %x, %d", c, got, e)
		}
	}
	if count < 500 {
		t.Errorf("10.1: %d pulls on an axis are too few to say anything", count)
	}
}
