package pair_test

import (
	"testing"

	"perigee/api"
)

// tally counts at which steps calls ended.
type tally [done + 1]int

// names are those of the steps at which a call may end: r2 is not below nought, r is nought with it alone, and what is d
// away is never pulled harder than what is one away, so that Sqrt and Scale have no error of their own.
func names() map[int]string {
	return map[int]string{
		xByX: "X by X", yByY: "Y by Y", len2: "Len2", mulEps: "Mul of eps", addEps: "Add", mulB: "Mul of a and b", mulG: "Mul of g",
		mulH: "Mul of h", divR2: "Div by r2", divR: "Div by r", done: "no error",
	}
}

// atLeast holds that enough calls ended at each step to say something of it.
func (l *tally) atLeast(t *testing.T, many int) {
	t.Helper()
	for step, count := range l {
		name, may := names()[step]
		if may && count < many {
			t.Errorf("10.1: %d calls ended at %s, too few to say anything", count, name)
		}
		if !may && count != 0 {
			t.Errorf("10.1: %d calls ended at step %d", count, step)
		}
	}
}

// any is a call that is like one of a world, or like none: of each kind it says how many bits there are of g, a, b, of d, of
// eps and of h.
func (w *words) any(kind int) call {
	bits := [][7]uint64{{84, 84, 84, 94, 94, 80, 74}, {127, 127, 127, 127, 127, 127, 127}, {95, 95, 95, 96, 96, 96, 95}, {70, 70, 70, 60, 60, 60, 70}}[kind%4]
	var c call
	for i, p := range c.numbers() {
		*p = w.fix(bits[i])
		if w.word()%32 == 0 {
			l := ends()
			*p = l[w.word()%uint64(len(l))]
		}
	}
	if kind%64 == 0 {
		// All of them so long that together they may be beyond.
		c.d, c.eps = at(of(int64(w.word()>>32), w.word()), of(-int64(w.word()>>32), w.word())), of(int64(w.word()>>32), w.word())
	}
	return c
}

func TestPullOfAny(t *testing.T) {
	var w words = 2
	var l tally
	for i := range 80000 {
		l[check(t, w.any(i))]++
	}
	l.atLeast(t, 50)
}

// All numbers that are of few, in all places.
func TestPullOfFewInAllPlaces(t *testing.T) {
	few := []api.Fix{nought, part, n(-1), of(2, half), greatest}
	var l tally
	places := 1
	for range (&call{}).numbers() {
		places *= len(few)
	}
	for i := range places {
		var c call
		for _, p := range c.numbers() {
			*p = few[i%len(few)]
			i /= len(few)
		}
		l[check(t, c)]++
	}
	if l[done] == 0 || l[divR2] == 0 || l[xByX] == 0 {
		t.Errorf("10.1: %d calls end as %v", places, l)
	}
}

// Each end, in each place and in each two places, of calls that are well but for that.
func TestPullOfEndsInEachPlace(t *testing.T) {
	var l tally
	for _, known := range []call{
		{n(1), n(1), n(1), v(1, 0), n(0), n(1)},
		{n(125), n(2), of(0, half), v(3, -4), n(0), n(1)},
		{n(7), n(1 << 20), of(0, 1<<48), at(of(1<<30, 5), of(-77, 99)), of(0, 1<<40), of(0, 1<<58)},
		{n(3), n(5), n(7), v(0, 0), n(2), of(-1, half)},
		{of(0, 77777), n(3), n(-1), at(nought, of(0, 1<<34)), nought, n(2)},
	} {
		for i := range known.numbers() {
			for j := range i + 1 {
				for _, x := range ends() {
					for _, y := range ends() {
						c := known
						*c.numbers()[i], *c.numbers()[j] = x, y
						l[check(t, c)]++
					}
				}
			}
		}
	}
	l.atLeast(t, 50)
}
