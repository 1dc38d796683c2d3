package direct_test

import (
	"fmt"
	"slices"
	"strings"

	"perigee/api"
)

// body is one of mass m at x, with p and other parts that may be.
func body(m api.Fix, x, p api.Vec) api.Body {
	return api.Body{Mass: m, Radius: n(1), X: x, P: p, Fuel: of(0, 1), Rate: n(3), Exhaust: n(4), Throttle: 50, Heading: 700}
}

// whole is a body of whole numbers.
func whole(m, x, y, p, q int64) api.Body { return body(n(m), v(x, y), v(p, q)) }

// asked is what Kick is asked with.
type asked struct {
	w api.World
	h api.Fix
}

// String says what Kick asks for.
func (a asked) String() string {
	var s strings.Builder
	fmt.Fprintf(&s, "g %x, eps %x, h %x", a.w.G, a.w.Eps, a.h)
	for _, b := range a.w.Bodies {
		fmt.Fprintf(&s, "; %x at %x with %x", b.Mass, b.X, b.P)
	}
	return s.String()
}

// with is a world that may be, of these bodies, where bodies pull one another so strongly, and a time.
func with(g, eps, h api.Fix, bodies ...api.Body) asked {
	w := api.World{Tick: 7, H: n(1), G: g, Eps: eps, Theta: of(0, half), Bounce: of(0, half), Bodies: bodies}
	for range bodies {
		w.At = append(w.At, -1)
	}
	return asked{w, h}
}

// copied is a with all its lists anew.
func (a asked) copied() asked {
	w := &a.w
	w.Bodies, w.Tethers, w.Rails = slices.Clone(w.Bodies), slices.Clone(w.Tethers), slices.Clone(w.Rails)
	w.At, w.Events = slices.Clone(w.At), slices.Clone(w.Events)
	return a
}

// momenta are the P of all bodies.
func (a asked) momenta() []api.Vec {
	var l []api.Vec
	for _, b := range a.w.Bodies {
		l = append(l, b.P)
	}
	return l
}

// kicked is a with what its bodies' P are.
func (a asked) kicked(p []api.Vec) asked {
	a = a.copied()
	for i := range p {
		a.w.Bodies[i].P = p[i]
	}
	return a
}

// changed is a with each body as change makes it.
func (a asked) changed(change func(b *api.Body)) asked {
	a = a.copied()
	for i := range a.w.Bodies {
		change(&a.w.Bodies[i])
	}
	return a
}

// mass is one that may be, the least or the greatest at times.
func (w *words) mass() api.Fix {
	switch w.word() % 16 {
	case 0:
		return of(0, 1<<48)
	case 1:
		return n(1 << 20)
	}
	return plus(w.positive(83), 1<<48)
}

// place is one in the world, at an end of it at times.
func (w *words) place() api.Vec {
	x := w.way(94)
	if w.word()%16 == 0 {
		x.X = n(1 << 30)
	}
	if w.word()%16 == 0 {
		x.Y = n(-1 << 30)
	}
	return x
}

// bodies are so many that may be, some of which are near to, or as others are.
func (w *words) bodies(many int) []api.Body {
	l := make([]api.Body, many)
	for i := range l {
		l[i] = body(w.mass(), w.place(), w.way(100))
		if i == 0 {
			continue
		}
		other := l[w.word()%uint64(i)]
		switch w.word() % 16 {
		case 0, 1, 2:
			l[i].X.X = other.X.X
		case 3, 4, 5:
			l[i].X.Y = other.X.Y
		case 6:
			l[i].Mass = other.Mass
		case 7:
			l[i].P = other.P
		}
	}
	return l
}

// may is a world of so many bodies that may be but for how fast they are, with a time.
func (w *words) may(many int) asked {
	a := with(w.positive(84), w.positive(80), w.fix(74), w.bodies(many)...)
	if w.word()%8 == 0 {
		a.w.Eps = nought
	}
	if w.word()%2 == 0 {
		// So that few pulls are beyond.
		a.w.G = w.positive(40)
	}
	return a
}

// calm is one in which each pull is within the numbers, and most are some parts at least.
func (w *words) calm(many int) asked {
	a := w.may(many)
	a.w.G, a.w.Eps, a.h = of(int64(w.word()%4), w.word()), of(1, w.word()), of(int64(w.word()%4)-2, w.word())
	for i := range a.w.Bodies {
		if w.word()%8 != 0 {
			a.w.Bodies[i].X = at(of(int64(w.word()%64)-32, w.word()), of(int64(w.word()%64)-32, w.word()))
		}
	}
	return a
}
