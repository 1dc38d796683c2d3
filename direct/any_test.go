package direct_test

import (
	"slices"
	"testing"

	"perigee/api"
)

// wild is a world of so many bodies whose numbers may be, but not all of the world.
func (w *words) wild(many int) asked {
	bits := [][4]uint64{{84, 94, 127, 74}, {127, 127, 127, 127}, {60, 92, 127, 66}, {40, 127, 100, 40}}[w.word()%4]
	a := with(w.fix(bits[0]), w.fix(bits[0]), w.fix(bits[3]))
	for range many {
		a.w.Bodies = append(a.w.Bodies, body(w.fix(bits[0]), w.way(bits[1]), w.way(bits[2])))
	}
	for _, p := range a.numbers() {
		if w.word()%32 == 0 {
			l := ends()
			*p = l[w.word()%uint64(len(l))]
		}
	}
	return a
}

// fast is one whose bodies are so fast that they may be beyond with what they get.
func (w *words) fast(many int) asked {
	a := w.calm(many)
	for i := range a.w.Bodies {
		for _, p := range []*api.Fix{&a.w.Bodies[i].P.X, &a.w.Bodies[i].P.Y} {
			switch w.word() % 8 {
			case 0:
				*p = of(1<<63-1-int64(w.word()%256), w.word())
			case 1:
				*p = of(-1<<63+1+int64(w.word()%256), w.word())
			}
		}
	}
	return a
}

// numbers are the places in which a has a number that Kick asks for.
func (a *asked) numbers() []*api.Fix {
	l := []*api.Fix{&a.w.G, &a.w.Eps, &a.h}
	for i := range a.w.Bodies {
		b := &a.w.Bodies[i]
		l = append(l, &b.Mass, &b.X.X, &b.X.Y, &b.P.X, &b.P.Y)
	}
	return l
}

func TestKickOfAny(t *testing.T) {
	var w words = 6
	var l tally
	for i := range 1500 {
		l.ask(t, w.may(i%(api.MaxBodies+1)))
		l.ask(t, w.calm(i%12))
	}
	l.atLeast(t, done, 500)
	if l[pull] < 100 {
		t.Errorf("11.1: %d calls ended at %s, too few to say anything", l[pull], names[pull])
	}
	for i := range 20000 {
		l.ask(t, w.wild(2+i%4))
		l.ask(t, w.fast(2+i%4))
	}
	l.atLeast(t, subX, 50)
}

// As many as there may be, all of which pull.
func TestKickOfTheMost(t *testing.T) {
	var w words = 7
	for range 50 {
		a := w.calm(api.MaxBodies)
		if stop := check(t, a); stop.step != done {
			t.Errorf("11.1: Kick of %v ends with %v", a, stop)
		}
	}
	// In a row, one apart: all go inwards, and of two that are as far from the ends each gets what the other one gets, turned
	// about.
	var row []api.Body
	for i := range int64(api.MaxBodies) {
		row = append(row, whole(1, i, 0, 0, 0))
	}
	a := with(n(1), nought, n(1), row...)
	check(t, a)
	got, _ := a.want()
	for i, p := range got {
		if p != about(got[len(got)-1-i]) || p.Y != nought || (p.X.Hi < 0) != (i >= api.MaxBodies/2) {
			t.Errorf("11.1: of %d in a row body %d gets %x", api.MaxBodies, i, p)
		}
	}
}

// Each end, in each place and in each two places, of worlds that are well but for that.
func TestEndsInEachPlace(t *testing.T) {
	var l tally
	for _, known := range []asked{
		with(n(4), nought, n(1), whole(1, 0, 0, 5, 6), whole(2, 2, 0, -1, 0)),
		with(n(343), n(6), n(-1), whole(1, 1, 1, 0, 0), whole(1, 3, -2, 0, 0)),
		with(n(2), of(0, half), of(0, half), whole(3, -5, 1, 7, 0), whole(1, 2, 2, 0, 0), whole(2, 2, 9, -7, 1)),
	} {
		for i := range known.numbers() {
			for j := range i + 1 {
				for _, x := range ends() {
					for _, y := range ends() {
						a := known.copied()
						*a.numbers()[i], *a.numbers()[j] = x, y
						l.ask(t, a)
					}
				}
			}
		}
	}
	l.atLeast(t, subX, 20)
}

// Where a body stands in the list has no say: in another order each gets the same.
func TestKickInAnyOrder(t *testing.T) {
	var w words = 8
	for round := range 300 {
		a := w.calm(round % 20)
		want, _ := a.want()
		turned := a.copied()
		slices.Reverse(turned.w.Bodies)
		slices.Reverse(want)
		checkTold(t, []told{{turned, want}})
		if many := len(want); many > 1 {
			// The first one goes behind the others.
			turned.w.Bodies = append(turned.w.Bodies[1:], turned.w.Bodies[0])
			want = append(want[1:], want[0])
			checkTold(t, []told{{turned, want}})
		}
	}
}
