package vec_test

import (
	"testing"

	"perigee/api"
	"perigee/vec"
)

// answer is all that the calls of two places, and of a place and a number, tell.
type answer struct {
	sum, rest, scaled api.Vec
	dot, far, long    api.Fix
	e                 [6]api.Errno
}

func ask(a, b api.Vec) answer {
	var l answer
	l.sum, l.e[0] = vec.Add(a, b)
	l.rest, l.e[1] = vec.Sub(a, b)
	l.scaled, l.e[2] = vec.Scale(a, b.X)
	l.dot, l.e[3] = vec.Dot(a, b)
	l.far, l.e[4] = vec.Len2(a)
	l.long, l.e[5] = vec.Len(a)
	return l
}

// sound tells whether beside each error there is nothing.
func sound(l answer) bool {
	for i, a := range []api.Vec{l.sum, l.rest, l.scaled, at(l.dot, nought), at(l.far, nought), at(l.long, nought)} {
		if l.e[i] != api.OK && a != (api.Vec{}) {
			return false
		}
	}
	return true
}

// Of what may not be nothing is said but of May; still every call ends, tells the same again, and nothing beside an error.
func TestLeastOfAll(t *testing.T) {
	numbers := append(ends(), least)
	var wrong []api.Vec
	for _, x := range numbers {
		wrong = append(wrong, at(x, least), at(least, x))
	}
	for _, a := range wrong {
		vec.Neg(a)
		for _, x := range numbers {
			for _, b := range []api.Vec{a, at(x, least), at(least, x), at(x, n(1))} {
				for _, p := range [][2]api.Vec{{a, b}, {b, a}} {
					l := ask(p[0], p[1])
					if l != ask(p[0], p[1]) || !sound(l) {
						t.Errorf("R1, R4: of %x and %x: %x", p[0], p[1], l)
					}
				}
			}
		}
	}
}

// What was measured in one call is nothing to another one.
func TestCallsDoNotTouch(t *testing.T) {
	l := places()
	first := map[[2]api.Vec]answer{}
	for _, a := range l {
		for _, b := range l[:40] {
			first[[2]api.Vec{a, b}] = ask(a, b)
		}
	}
	for p, want := range first {
		if got := ask(p[0], p[1]); got != want || !sound(got) {
			t.Errorf("R1, R4: of %x and %x: %x, then %x", p[0], p[1], want, got)
		}
	}
}
