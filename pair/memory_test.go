package pair_test

import (
	"testing"

	"perigee/api"
)

// answer is all that Pull tells.
type answer struct {
	got api.Vec
	e   api.Errno
}

func (c call) answer() answer {
	got, e := c.pull()
	return answer{got, e}
}

// alike are calls that differ from one another in one place alone, or in the order of what is in the places.
func alike() []call {
	known := call{n(2), n(3), n(5), v(3, 4), n(12), n(7)}
	l := []call{
		known,
		{n(3), n(2), n(5), v(3, 4), n(12), n(7)},
		{n(5), n(3), n(2), v(4, 3), n(12), n(7)},
		{n(7), n(3), n(5), v(3, 4), n(12), n(2)},
		{n(2), n(3), n(5), v(12, 4), n(3), n(7)},
		{n(2), n(3), n(4), v(3, 5), n(12), n(7)},
		{n(12), n(3), n(5), v(3, 4), n(2), n(7)},
	}
	for i := range known.numbers() {
		for _, x := range ends() {
			c := known
			*c.numbers()[i] = x
			l = append(l, c)
		}
	}
	return l
}

// A call tells the same whatever was told before it: each, behind each other one.
func TestPullHangsOnNothingElse(t *testing.T) {
	l := alike()
	first := make([]answer, len(l))
	for i, c := range l {
		check(t, c)
		first[i] = c.answer()
	}
	for i, c := range l {
		for j, before := range l {
			if got := before.answer(); got != first[j] {
				t.Fatalf("R1: Pull of %x = %x, then %x", before, first[j], got)
			}
			if got := c.answer(); got != first[i] {
				t.Fatalf("R1: Pull of %x = %x, but behind %x it is %x", c, first[i], before, got)
			}
		}
	}
}

// What two calls have in common is not told again where the rest is not: g, a, b and h in each order.
func TestPullInEachOrder(t *testing.T) {
	few := []api.Fix{n(1), n(2), of(0, 1<<40), of(-3, half)}
	for range 2 {
		for i := range 256 {
			c := call{few[i%4], few[i/4%4], few[i/16%4], v(2, -1), of(0, half), few[i/64]}
			check(t, c)
			c.d = v(-1, 3)
			check(t, c)
		}
	}
}

// Those who ask at one time don't meet.
func TestAskedAtOneTime(t *testing.T) {
	wrong := make(chan int)
	for i := range 8 {
		go func() {
			w, count := words(i), 0
			for j := range 2000 {
				c := w.any(j)
				if want, e, _ := c.want(); c.answer() != (answer{want, e}) {
					count++
				}
			}
			wrong <- count
		}()
	}
	for range 8 {
		if n := <-wrong; n != 0 {
			t.Errorf("R1: %d wrong of those asked at one time", n)
		}
	}
}

// Of what may not be nothing is said; still every call ends, tells the same again, and nothing beside an error.
func TestLeastOfAll(t *testing.T) {
	for _, known := range alike() {
		for i := range known.numbers() {
			for j := range i + 1 {
				c := known
				*c.numbers()[i], *c.numbers()[j] = least, least
				got := c.answer()
				if got != c.answer() || got.e != api.OK && got.got != (api.Vec{}) {
					t.Errorf("R1, R4: Pull of %x = %x", c, got)
				}
			}
		}
	}
	c := call{least, least, least, at(least, least), least, least}
	if got := c.answer(); got.e != api.OK && got.got != (api.Vec{}) {
		t.Errorf("R4: Pull of %x = %x", c, got)
	}
}
