package direct_test

import (
	"slices"
	"testing"

	"perigee/api"
	"perigee/direct"
)

// told is what Kick of a call must tell, without an error.
type told struct {
	asked
	want []api.Vec
}

func checkTold(t *testing.T, l []told) {
	t.Helper()
	for _, c := range l {
		check(t, c.asked)
		if got, e := direct.Kick(c.w, c.h); !slices.Equal(got, c.want) || e != api.OK {
			t.Errorf("11.1: Kick of %v = %x, %d, not %x", c.asked, got, e, c.want)
		}
	}
}

func ways(l ...api.Vec) []api.Vec { return l }

func TestKickOfNoneAndOfOne(t *testing.T) {
	checkTold(t, []told{
		{with(n(4), n(0), n(1)), nil},
		{with(n(0), n(0), n(0)), nil},
		{asked{}, nil},
		{asked{w: api.World{Bodies: []api.Body{}}}, nil},
		// No other one is there that it could be beyond with, or at one place with.
		{with(n(4), n(0), n(1), whole(1, 0, 0, 5, 6)), ways(v(5, 6))},
		{with(n(1<<20), n(0), greatest, whole(1<<20, 1<<30, 1<<30, -5, 6)), ways(v(-5, 6))},
		{with(n(0), n(0), n(0), whole(1, 3, 4, 0, 0)), ways(v(0, 0))},
		{with(n(4), n(0), lowest, body(n(1), v(3, 4), at(greatest, lowest))), ways(at(greatest, lowest))},
		{with(n(4), n(0), n(-1), body(n(1), v(3, 4), at(part, below))), ways(at(part, below))},
	})
}

func TestKickOfTwo(t *testing.T) {
	checkTold(t, []told{
		// 4 times 1 times 2, over 4, along the way.
		{with(n(4), n(0), n(1), whole(1, 0, 0, 5, 6), whole(2, 2, 0, -1, 0)), ways(v(7, 6), v(-3, 0))},
		{with(n(4), n(0), n(-1), whole(1, 0, 0, 5, 6), whole(2, 2, 0, -1, 0)), ways(v(3, 6), v(1, 0))},
		{with(n(4), n(0), n(1), whole(2, 2, 0, -1, 0), whole(1, 0, 0, 5, 6)), ways(v(-3, 0), v(7, 6))},
		{with(n(4), n(0), n(3), whole(1, 2, 0, 5, 6), whole(2, 0, 0, -1, 0)), ways(v(-1, 6), v(5, 0))},
		{with(n(4), n(0), of(0, half), whole(1, 0, 2, 5, 6), whole(2, 0, 0, -1, 0)), ways(v(5, 5), v(-1, 1))},
		// What one gets is along the way to the other one.
		{with(n(125), n(0), n(1), whole(1, 0, 0, 0, 0), whole(1, 3, 4, 0, 0)), ways(v(3, 4), v(-3, -4))},
		{with(n(125), n(0), n(1), whole(1, 0, 0, 0, 0), whole(1, 3, -4, 0, 0)), ways(v(3, -4), v(-3, 4))},
		{with(n(125), n(0), n(1), whole(1, 9, 8, 1, 1), whole(1, 6, 4, 2, 2)), ways(v(-2, -3), v(5, 6))},
		{with(n(125), n(0), n(2), whole(3, 10, -9, 0, 0), whole(5, 6, -6, 0, 0)), ways(v(-120, 90), v(120, -90))},
		{with(n(125), n(0), n(-2), whole(3, 10, -9, 0, 7), whole(5, 6, -6, 8, 0)), ways(v(120, -83), v(-112, 90))},
		// With eps as far away as if it were on an axis of its own.
		{with(n(125), n(3), n(1), whole(1, 0, 0, 0, 0), whole(1, 0, 4, 0, 0)), ways(v(0, 4), v(0, -4))},
		{with(n(343), n(6), n(1), whole(1, 1, 1, 0, 0), whole(1, 3, -2, 0, 0)), ways(v(2, -3), v(-2, 3))},
		// Where both are at one place, neither gets anything.
		{with(n(27), n(3), n(9), whole(1, 5, 5, 1, 2), whole(1, 5, 5, 3, 4)), ways(v(1, 2), v(3, 4))},
		{with(n(1<<20), part, n(1), whole(1, 5, 5, 1, 2), whole(1, 7, 5, 3, 4)), ways(v(1+1<<18, 2), v(3-1<<18, 4))},
		// What is not as whole as that.
		{with(n(1), n(0), n(1), whole(1, 0, 0, 0, 0), whole(1, 1, 1, 1, 1)),
			ways(at(of(0, 0x5a827999fcef3242), of(0, 0x5a827999fcef3242)), at(of(0, 0xa57d86660310cdbe), of(0, 0xa57d86660310cdbe)))},
		{with(n(1), n(0), n(1), whole(1, 0, 0, 0, 0), whole(1, 3, 0, 0, 0)),
			ways(at(of(0, 0x1c71c71c71c71c72), nought), at(of(-1, 0xe38e38e38e38e38e), nought))},
	})
}

// 216000 is the product of the cubes of 3, 4 and 5: so three in a corner, each at a whole place, get whole pulls.
func TestKickOfThree(t *testing.T) {
	const g = 27 * 64 * 125
	a, b, c := whole(1, 0, 0, 0, 0), whole(1, 3, 0, 0, 0), whole(1, 0, 4, 0, 0)
	getA, getB, getC := v(24000, 13500), v(-24000-5184, 6912), v(5184, -13500-6912)
	checkTold(t, []told{
		{with(n(g), n(0), n(1), a, b, c), ways(getA, getB, getC)},
		{with(n(g), n(0), n(1), c, a, b), ways(getC, getA, getB)},
		{with(n(g), n(0), n(1), b, c, a), ways(getB, getC, getA)},
		{with(n(g), n(0), n(1), b, a, c), ways(getB, getA, getC)},
		{with(n(g), n(0), n(-1), a, b, c), ways(about(getA), about(getB), about(getC))},
		// Masses of 2, 3 and 5, and what they had.
		{with(n(g), n(0), n(1), whole(2, 0, 0, 1, 2), whole(3, 3, 0, 3, 4), whole(5, 0, 4, 5, 6)),
			ways(v(1+6*24000, 2+10*13500), v(3-6*24000-15*5184, 4+15*6912), v(5+15*5184, 6-10*13500-15*6912))},
	})
}

// On a line at 0, 1, 2 and 3, with a G of the cubes of 2 and 3: each two get 216, 54 or 24 times their masses.
func TestKickOfFourAndFive(t *testing.T) {
	row := []api.Body{whole(1, 0, 0, 0, 0), whole(2, 1, 0, 0, 0), whole(3, 2, 0, 0, 0), whole(4, 3, 0, 0, 0)}
	p01, p02, p03, p12, p13, p23 := int64(2*216), int64(3*54), int64(4*24), int64(6*216), int64(8*54), int64(12*216)
	got := ways(v(p01+p02+p03, 0), v(p12+p13-p01, 0), v(p23-p02-p12, 0), v(-p03-p13-p23, 0))
	checkTold(t, []told{{with(n(216), n(0), n(1), row...), got}})
	// One more, without a mass, neither gets anything nor has the others get it.
	five := with(n(216), n(0), n(1), append(slices.Clone(row), whole(0, 1, 1, 7, 7))...)
	checkTold(t, []told{{five, append(slices.Clone(got), v(7, 7))}})
	slices.Reverse(row)
	slices.Reverse(got)
	checkTold(t, []told{{with(n(216), n(0), n(1), row...), got}})
}

// A time of nought, or a G of nought, or masses of nought, leave all P as they were.
func TestKickOfNought(t *testing.T) {
	var w words = 1
	for many := range 9 {
		a := w.calm(many)
		a.w.Eps = n(1)
		a.w.Bodies = append(a.w.Bodies, a.w.Bodies...)
		want := a.momenta()
		still, weak, light := a, a, a.changed(func(b *api.Body) { b.Mass = nought })
		still.h, weak.w.G = nought, nought
		checkTold(t, []told{{still, want}, {weak, want}, {light, want}})
	}
	// But not where what they get is not told.
	for _, a := range []asked{with(n(0), n(0), n(1), whole(1, 2, 3, 4, 5), whole(6, 2, 3, 7, 8)), with(n(1), n(0), n(0), whole(1, 2, 3, 4, 5), whole(6, 2, 3, 7, 8))} {
		if got, e := direct.Kick(a.w, a.h); len(got) != 0 || e != api.ErrZero {
			t.Errorf("11.1: Kick of two at one place = %x, %d", got, e)
		}
	}
}

// Who kicks in a time and then in the same turned about has all P as they were.
func TestKickAndBack(t *testing.T) {
	var w words = 2
	changed := 0
	for round := range 300 {
		a := w.calm(round % 33)
		got, e := direct.Kick(a.w, a.h)
		if e != api.OK {
			t.Fatalf("11.1: Kick of %v = %d", a, e)
		}
		if !slices.Equal(got, a.momenta()) {
			changed++
		}
		back := a.kicked(got)
		back.h = neg(a.h)
		checkTold(t, []told{{back, a.momenta()}})
	}
	if changed < 100 {
		t.Errorf("11.1: %d kicks that changed anything are too few to say anything", changed)
	}
}

// Bodies may be as fast as numbers go: how fast they are has no say in what they get.
func TestKickOfTheFast(t *testing.T) {
	checkTold(t, []told{
		{with(n(4), n(0), n(1), body(n(1), v(0, 0), at(lowest, greatest)), body(n(2), v(2, 0), at(greatest, lowest))), ways(at(of(-1<<63+2, 1), greatest), at(of(1<<63-3, most), lowest))},
		{with(n(4), n(0), n(-1), body(n(1), v(0, 0), at(greatest, greatest)), body(n(2), v(2, 0), at(lowest, greatest))), ways(at(of(1<<63-3, most), greatest), at(of(-1<<63+2, 1), greatest))},
		{with(n(0), n(1), n(1), body(n(1), v(0, 0), at(lowest, lowest)), body(n(2), v(0, 0), at(lowest, lowest))), ways(at(lowest, lowest), at(lowest, lowest))},
	})
}

// All the rest of a world has no say.
func TestKickAsksNothingElse(t *testing.T) {
	var w words = 3
	for many := range 7 {
		a := w.calm(many)
		want, _ := a.want()
		for _, other := range a.others() {
			if got, e := direct.Kick(other.w, other.h); !slices.Equal(got, want) || e != api.OK {
				t.Errorf("11.1: Kick of %v = %x, %d, not %x as of %x", other, got, e, want, a)
			}
		}
	}
}

// others are a with all as it is but for what Kick does not ask for, each of it at its ends.
func (a asked) others() []asked {
	var l []asked
	for _, change := range []func(w *api.World){
		func(w *api.World) { w.Tick, w.H = api.MaxTick, n(1024) },
		func(w *api.World) { w.Tick, w.H = 0, part },
		func(w *api.World) { w.Theta, w.Bounce = n(1), n(1) },
		func(w *api.World) { w.Theta, w.Bounce = nought, nought },
		func(w *api.World) { w.Gravity, w.Step = api.Cells, api.Four4 },
		func(w *api.World) { w.Tethers = []api.Tether{{A: 0, B: 1, Len: n(1), Limit: n(1 << 40)}} },
		func(w *api.World) {
			w.Rails = []api.Rail{{Parent: -1, Long: n(1 << 28), Ecc: of(0, half), Turn: 7, Phase: 8, Period: 9, Sphere: n(1 << 30)}}
			for i := range w.At {
				w.At[i] = 0
			}
		},
		func(w *api.World) { w.ExMass, w.ExP = n(1<<26), v(-1<<40, 1<<40) },
		func(w *api.World) { w.Events = []api.Event{{Tick: 1, Kind: api.EContact, A: 0, B: 1}} },
		func(w *api.World) { w.At = nil },
	} {
		other := a.copied()
		change(&other.w)
		l = append(l, other)
	}
	for _, b := range []api.Body{
		{},
		{Radius: n(1 << 16), Fuel: n(1 << 20), Rate: n(1 << 16), Exhaust: n(1 << 16), Throttle: 100, Heading: 65535},
		{Radius: part, Fuel: part, Throttle: 1, Heading: 1},
	} {
		l = append(l, a.changed(func(is *api.Body) {
			was := *is
			*is = b
			is.Mass, is.X, is.P = was.Mass, was.X, was.P
		}))
	}
	return l
}
