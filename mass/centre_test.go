package mass_test

import (
	"slices"
	"testing"

	"perigee/api"
	"perigee/mass"
)

func TestCentreOfNone(t *testing.T) {
	for _, l := range [][]api.Body{nil, {}, make([]api.Body, 0, 5), row(3, whole(1, 2, 3))[:0]} {
		if m, x, e := mass.Centre(l); m != nought || x != v(0, 0) || e != api.ErrArg {
			t.Errorf("9.1: Centre of none = %v, %v, %d", m, x, e)
		}
	}
}

func TestCentreByHand(t *testing.T) {
	const half, least = 1 << 63, 1 << 48 // behind the point: the half, and the least mass
	for _, x := range []struct {
		l  []api.Body
		m  api.Fix
		at api.Vec
	}{
		{row(1, whole(1, 4, -3)), n(1), v(4, -3)},
		{[]api.Body{whole(1, 4, 0), whole(3, 0, 8), whole(4, -10, -2)}, n(8), at(of(-5, half), n(2))},
		{[]api.Body{whole(1, 10, 10), whole(1, -10, -10)}, n(2), v(0, 0)},
		{[]api.Body{whole(2, 1, -1), whole(1, -1, 1)}, n(3), at(of(0, most/3), of(-1, most/3*2+1))},
		{row(7, whole(3, -5, 9)), n(21), v(-5, 9)},
		// The heaviest and the lightest, at the world's edges.
		{[]api.Body{whole(1<<20, 1<<30, -1<<30), whole(1<<20, -1<<30, 1<<30)}, n(1 << 21), v(0, 0)},
		{[]api.Body{whole(1<<20, 1<<30, -1<<30), whole(1<<20, 1<<30, -1<<30)}, n(1 << 21), v(1<<30, -1<<30)},
		{[]api.Body{whole(1<<20, 0, 0), body(of(0, least), v(1<<30, -1<<30))}, of(1<<20, least), at(of(0, 1<<58-1<<22), of(-1, most-1<<58+1<<22+1))},
		{row(2, body(of(0, least), at(n(1<<30), of(0, 1<<16)))), of(0, 2*least), at(n(1<<30), of(0, 1<<16))},
		// What each has is rounded: of a half of the least part one, farther from nought; of less none.
		{row(1, body(of(0, least), at(of(0, 1<<15), of(-1, most-1<<15+1)))), of(0, least), at(of(0, 1<<16), of(-1, most-1<<16+1))},
		{row(1, body(of(0, least), at(of(0, 1<<15-1), of(-1, most-1<<15+2)))), of(0, least), v(0, 0)},
		{row(4, body(n(1<<20), at(of(1<<30-1, most), of(-1<<30, 1)))), n(1 << 22), at(of(1<<30-1, most), of(-1<<30, 1))},
		// And so is what they are divided by.
		{[]api.Body{body(n(1), at(of(0, 1), of(-1, most))), whole(1, 0, 0)}, n(2), at(of(0, 1), of(-1, most))},
		{[]api.Body{body(n(1), at(of(0, 1), of(-1, most))), whole(2, 0, 0)}, n(3), v(0, 0)},
		{[]api.Body{body(n(2), at(of(0, 1), of(-1, most))), whole(1, 0, 0)}, n(3), at(of(0, 1), of(-1, most))},
	} {
		if m, where, e := checkCentre(t, x.l); m != x.m || where != x.at || e != api.OK {
			t.Errorf("9.1: Centre of %v = %x, %x, %d, not %x, %x", places(x.l), m, where, e, x.m, x.at)
		}
	}
}

// As many of the heaviest bodies as go into a number, at one edge of the world, and one more.
func TestCentreBeyond(t *testing.T) {
	const many = 1<<13 - 1
	for _, x := range []api.Vec{v(1<<30, 0), v(-1<<30, 0), v(0, 1<<30), v(0, -1<<30), v(1<<30, 1<<30), v(-1<<30, -1<<30), v(1<<30, -1<<30)} {
		heavy := body(n(1<<20), x)
		if m, where, e := checkCentre(t, row(many, heavy)); m != n(many<<20) || where != x || e != api.OK {
			t.Errorf("9.1: Centre of %d at %v = %v, %v, %d", many, x, m, where, e)
		}
		for _, l := range [][]api.Body{
			row(many+1, heavy), row(many+2, heavy), row(2*many, heavy),
			append(row(many, heavy), body(of(0, 1<<48), v(0, 0)), heavy),
			// Others that come later, and would bring the sum back, change nothing.
			append(row(many+1, heavy), row(many, body(n(1<<20), at(neg(x.X), neg(x.Y))))...),
		} {
			if m, where, e := checkCentre(t, l); m != nought || where != v(0, 0) || e != api.ErrOver {
				t.Errorf("9.1: Centre of %d at %v = %v, %v, %d", len(l), x, m, where, e)
			}
		}
		// Just below: the sum is beyond by less than one part, or not.
		little := api.Body{Mass: of(0, 1<<48), X: x}
		for _, more := range []int{1, 1<<6 - 1, 1 << 6} {
			checkCentre(t, append(row(many, heavy), row(more, body(n(1<<14), x))...))
			checkCentre(t, slices.Concat(row(many, heavy), row(more, body(n(1<<14), x)), row(2, little)))
		}
	}
}

func neg(a api.Fix) api.Fix {
	less := units(a)
	b, _ := ofUnits(less.Neg(less))
	return b
}

// The same bodies in another order, whose sums stay within the numbers.
func TestCentreInOrder(t *testing.T) {
	there, back := row(9000, whole(1<<20, 1<<30, -1<<30)), row(9000, whole(1<<20, -1<<30, 1<<30))
	if m, x, e := checkCentre(t, append(slices.Clone(there), back...)); m != nought || x != v(0, 0) || e != api.ErrOver {
		t.Errorf("9.1: Centre of those there, then those back = %v, %v, %d", m, x, e)
	}
	turns := row(9000, there[0], back[0])
	if m, x, e := checkCentre(t, turns); m != n(18000<<20) || x != v(0, 0) || e != api.OK {
		t.Errorf("9.1: Centre of those there and back by turns = %v, %v, %d", m, x, e)
	}
}

func TestCentreOfAny(t *testing.T) {
	var w words = 5
	for round := range 4000 {
		checkCentre(t, w.bodies(round%40))
	}
	for range 5 {
		checkCentre(t, w.bodies(5000))
	}
}

// Of one body of any mass at any place: near to where it is, and there, if its mass is a power of two from 1 on.
func TestCentreOfOne(t *testing.T) {
	var w words = 6
	for range 4000 {
		l := w.bodies(1)
		if m, _, e := checkCentre(t, l); m != l[0].Mass || e != api.OK {
			t.Fatalf("9.1: Centre of %v = %v, .., %d", places(l), m, e)
		}
		l[0].Mass = n(1 << (w.word() % 21))
		if m, x, e := mass.Centre(l); m != l[0].Mass || x != l[0].X || e != api.OK {
			t.Fatalf("9.1: Centre of %v = %v, %v, %d", places(l), m, x, e)
		}
	}
}

func TestOtherPartsHaveNoCentre(t *testing.T) {
	var w words = 7
	for range 50 {
		l := w.bodies(40)
		m, x, e := mass.Centre(l)
		for _, same := range others(l) {
			if gotM, gotX, gotE := mass.Centre(same); gotM != m || gotX != x || gotE != e {
				t.Fatalf("9.1: with other parts Centre of %v = %v, %v, %d, not %v, %v, %d", places(l), gotM, gotX, gotE, m, x, e)
			}
		}
	}
}

// The axes are alike, and both sides of nought are: as products and quotients are (2.3).
func TestCentreTurnedAbout(t *testing.T) {
	var w words = 8
	for _, change := range []func(x api.Vec) api.Vec{
		func(x api.Vec) api.Vec { return at(x.Y, x.X) },
		func(x api.Vec) api.Vec { return at(neg(x.X), x.Y) },
		func(x api.Vec) api.Vec { return at(x.X, neg(x.Y)) },
		func(x api.Vec) api.Vec { return at(neg(x.Y), neg(x.X)) },
	} {
		for range 500 {
			l := w.bodies(1 + int(w.word()%30))
			m, x, _ := checkCentre(t, l)
			if gotM, gotX, e := checkCentre(t, turned(l, change)); gotM != m || gotX != change(x) || e != api.OK {
				t.Fatalf("9.1: turned about, Centre of %v = %v, %v, %d, not %v, %v", places(l), gotM, gotX, e, m, change(x))
			}
		}
	}
}

// Of bodies that may not be, the errors of the sums and of the quotients come in the order of the steps.
func TestCentreOfWhatMayNotBe(t *testing.T) {
	const far = 1 << 62
	for _, x := range []struct {
		l []api.Body
		e api.Errno
	}{
		{row(1, whole(0, 1, 1)), api.ErrZero},
		{[]api.Body{whole(5, 1, 1), whole(-5, 1, 1)}, api.ErrZero},
		{row(2, whole(far, 0, 0)), api.ErrOver},
		{row(2, whole(far, 1, 1)), api.ErrOver},
		{[]api.Body{whole(far, 1, 1), whole(-far, far, far)}, api.ErrOver},
		{[]api.Body{whole(far, 0, 1), whole(-far, 0, far)}, api.ErrZero},
		{row(1, whole(far, 1, 2)), api.ErrOver},
		{row(1, body(of(0, 1), v(1, 1))), api.OK},
		{[]api.Body{body(of(0, 2), v(far, far)), body(of(-1, most), v(-far, far))}, api.ErrOver},
	} {
		m, where, e := checkCentre(t, x.l)
		if e != x.e || e != api.OK && (m != nought || where != v(0, 0)) {
			t.Errorf("9.1: Centre of %v = %v, %v, %d, not %d", places(x.l), m, where, e, x.e)
		}
	}
	var w words = 9
	for round := range 5000 {
		if _, _, e := mass.Centre(w.wrong(round % 6)); e == api.ErrArg != (round%6 == 0) {
			t.Fatalf("9.1: Centre of %d is told with %d", round%6, e)
		}
	}
}
