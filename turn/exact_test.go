package turn_test

import (
	"math"
	"math/big"
	"testing"

	"perigee/api"
	"perigee/turn"
)

// halfRoot is the root of half of 1 and c (or less c), in parts of 2^64.
func halfRoot(c *big.Int, sign int64) *big.Int {
	n := new(big.Int).Mul(c, big.NewInt(sign))
	n.Add(n, power(64))
	// It is not below nought: of two as near that above is the farther one.
	n.Add(n, big.NewInt(1)).Rsh(n, 1)
	return n.Sqrt(n.Lsh(n, 64))
}

// halvings are the directions that Table must tell, worked out without the packages that are stood on.
func halvings() []api.Vec {
	var l []api.Vec
	c := new(big.Int)
	for range 14 {
		x, y := halfRoot(c, 1), halfRoot(c, -1)
		l = append(l, at(sure(x), sure(y)))
		c = x
	}
	return l
}

// known are halvings, and quarters, made once for the many angles of a test.
type known []api.Vec

// rotated is what Rotate must tell.
func (k known) rotated(v api.Vec, a int) (api.Vec, api.Errno) {
	x, y := units(v.X), units(v.Y)
	turns := new(big.Int).Mod(big.NewInt(int64(a)), big.NewInt(whole)).Int64()
	for i := range 14 {
		if turns/(eighth>>i)%2 == 0 {
			continue
		}
		c, s := units(k[i].X), units(k[i].Y)
		across := new(big.Int).Sub(times(x, c), times(y, s))
		up := new(big.Int).Add(times(x, s), times(y, c))
		x, y = across, up
		if x.CmpAbs(power(127)) >= 0 || y.CmpAbs(power(127)) >= 0 {
			return api.Vec{}, api.ErrOver
		}
	}
	for range turns / quarter {
		x, y = new(big.Int).Neg(y), x
	}
	return at(sure(x), sure(y)), api.OK
}

func (k known) check(t *testing.T, v api.Vec, a int) {
	t.Helper()
	want, wrong := k.rotated(v, a)
	if got, e := turn.Rotate(v, a); got != want || e != wrong {
		t.Fatalf("5.2: Rotate(%x, %d) = %x, %d, not %x, %d", v, a, got, e, want, wrong)
	}
}

func TestTableIsHalved(t *testing.T) {
	want, got := halvings(), turn.Table()
	if len(got) != len(want) {
		t.Fatalf("5.1: Table tells %d directions", len(got))
	}
	for i := range want {
		if got[i] != want[i] {
			t.Errorf("5.1: Table()[%d] = %x, not %x", i, got[i], want[i])
		}
	}
}

func TestOfEachAngle(t *testing.T) {
	k := known(halvings())
	for a := range whole {
		want, _ := k.rotated(v(1, 0), a)
		others := []int{a - whole, a + whole, a - whole<<20, a + whole<<40, a + math.MinInt64, a + (math.MaxInt64 - whole + 1)}
		for _, b := range []int{a, others[a%7%6]} {
			if got := turn.Of(b); got != want {
				t.Fatalf("5.2: Of(%d) = %x, not %x", b, got, want)
			}
		}
	}
	for _, a := range angles() {
		want, _ := k.rotated(v(1, 0), a)
		if got := turn.Of(a); got != want {
			t.Errorf("5.2: Of(%d) = %x, not %x", a, got, want)
		}
	}
}

func TestRotateAtEdges(t *testing.T) {
	k := known(halvings())
	for _, v := range ways() {
		for _, a := range angles() {
			k.check(t, v, a)
		}
	}
}

func TestRotateOfAny(t *testing.T) {
	k := known(halvings())
	var w words = 1
	for i := range 60000 {
		bits := []uint64{127, 126, 64, 40}[i%4]
		k.check(t, w.vec(bits), w.angle())
	}
}

// over is the part that, times of, with the other part times by, is at the end of the numbers on that side.
func over(other, by, of *big.Int, sign int64) *big.Int {
	left := new(big.Int).Mul(power(127), big.NewInt(sign))
	left.Sub(left, times(other, by))
	return left.Quo(left.Lsh(left, 64), of)
}

// around calls each with the numbers that may be of n, and of what is next to it.
func around(n *big.Int, each func(a api.Fix)) {
	for i := int64(-3); i <= 3; i++ {
		if a, e := ofUnits(new(big.Int).Add(n, big.NewInt(i))); e == api.OK {
			each(a)
		}
	}
}

// tally counts what was just within, and what just beyond.
type tally [2]int

func (l *tally) count(t *testing.T, k known, v api.Vec, a int) {
	t.Helper()
	k.check(t, v, a)
	_, e := k.rotated(v, a)
	l[min(e, 1)]++
}

func TestStepsNextToTheEnd(t *testing.T) {
	k := known(halvings())
	var w words = 2
	var x, y tally
	for range 3000 {
		i := w.word() % 4
		c, s := units(k[i].X), units(k[i].Y)
		down := new(big.Int).Neg(s)
		a := eighth>>i + w.angle()%4*quarter
		far := of(int64(w.word()>>1), w.word())
		other := neg(far)
		for _, sign := range []int64{1, -1} {
			around(over(units(other), down, c, sign), func(n api.Fix) { x.count(t, k, at(n, other), a) })
			around(over(units(far), c, down, sign), func(n api.Fix) { x.count(t, k, at(far, n), a) })
			around(over(units(far), s, c, sign), func(n api.Fix) { y.count(t, k, at(far, n), a) })
			around(over(units(far), c, s, sign), func(n api.Fix) { y.count(t, k, at(n, far), a) })
			far, other = other, far
		}
	}
	for name, l := range map[string]tally{"Sub": x, "Add": y} {
		if l[0] < 1000 || l[1] < 1000 {
			t.Errorf("5.2: of %s %d within the numbers, %d beyond: too few to say anything", name, l[0], l[1])
		}
	}
}

// A direction further down may be where the numbers end, and may not be left out where what comes ahead is short enough.
func TestLaterStepsNextToTheEnd(t *testing.T) {
	k := known(halvings())
	var w words = 3
	var l tally
	for range 20000 {
		// Nearly as long as the numbers go, in nearly any direction, so that where it ends it leaves them, or does not.
		long := sure(new(big.Int).Sub(power(127), new(big.Int).SetUint64(w.word()|1)))
		short := w.fix(127)
		if w.word()%2 == 0 {
			long, short = short, long
		}
		l.count(t, k, at(long, short), w.angle())
	}
	if l[0] < 100 || l[1] < 100 {
		t.Errorf("5.2: %d within the numbers, %d beyond: too few to say anything", l[0], l[1])
	}
}
