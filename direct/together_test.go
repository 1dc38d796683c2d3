package direct_test

import (
	"math/big"
	"slices"
	"testing"

	"perigee/api"
	"perigee/direct"
)

// toldOf is what Kick of a tells, without an error.
func toldOf(t *testing.T, a asked) []api.Vec {
	t.Helper()
	got, e := direct.Kick(a.w, a.h)
	if e != api.OK || len(got) != len(a.w.Bodies) {
		t.Fatalf("11.1: Kick of %v = %x, %d", a, got, e)
	}
	return got
}

// All P together are as they were, to the last bit, though most pulls are rounded.
func TestTogetherStays(t *testing.T) {
	var w words = 9
	changed := 0
	for round := range 1000 {
		a := w.calm(round % (api.MaxBodies + 1))
		got := toldOf(t, a)
		checkTogether(t, a, got)
		if !slices.Equal(got, a.momenta()) {
			changed++
		}
	}
	if changed < 300 {
		t.Errorf("11.2: %d kicks that changed anything are too few to say anything", changed)
	}
}

// So it is kick behind kick, in this time or in that.
func TestTogetherStaysOnTheWay(t *testing.T) {
	var w words = 10
	for round := range 20 {
		first := w.calm(2 + round)
		a := first
		for range 20 {
			a = a.kicked(toldOf(t, a))
			a.h = w.fix(60)
		}
		checkTogether(t, first, a.momenta())
	}
}

// What one of two gets is what the other one loses, wherever they are.
func TestWhatOneGetsTheOtherLoses(t *testing.T) {
	var w words = 11
	count := 0
	for range 3000 {
		a := w.calm(2)
		was, is := a.momenta(), toldOf(t, a)
		one, other := parts(is[0]).less(parts(was[0])), parts(is[1]).less(parts(was[1]))
		for axis := range one {
			if one[axis].Cmp(new(big.Int).Neg(other[axis])) != 0 {
				t.Fatalf("11.2: of %v one gets %x, the other one %x", a, one, other)
			}
			if one[axis].Sign() != 0 {
				count++
			}
		}
	}
	if count < 1000 {
		t.Errorf("11.2: %d pulls are too few to say anything", count)
	}
}

// So it is at the ends of the numbers, where all P together are beyond them.
func TestTogetherBeyondTheNumbers(t *testing.T) {
	for _, p := range []api.Fix{greatest, lowest} {
		a := with(n(4), nought, nought, body(n(1), v(0, 0), at(p, p)), body(n(1), v(1, 0), at(p, p)), body(n(1), v(0, 1), at(p, p)))
		checkTogether(t, a, toldOf(t, a))
		back := plus(p, int64(-5*units(p).Sign()))
		for _, h := range []int64{1, -1} {
			a = with(part, nought, n(h), body(n(1), v(0, 0), at(back, p)), body(n(2), v(1, 0), at(back, p)), body(n(2), v(-1, 0), at(back, p)))
			checkTogether(t, a, toldOf(t, a))
		}
	}
}
