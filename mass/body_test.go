package mass_test

import (
	"math"
	"slices"

	"perigee/api"
)

// body is one of mass m at x, with other parts that may be.
func body(m api.Fix, x api.Vec) api.Body {
	return api.Body{Mass: m, Radius: n(1), X: x, P: v(1, -2), Rate: n(3), Exhaust: n(4), Throttle: 50, Heading: 700}
}

// whole is a body whose mass and place are whole numbers.
func whole(m, x, y int64) api.Body { return body(n(m), v(x, y)) }

// row is l n times, one behind the other.
func row(n int, l ...api.Body) []api.Body { return slices.Repeat(l, n) }

// bodies are n that may be, some of which are at one place, or in one cell.
func (w *words) bodies(n int) []api.Body {
	l := make([]api.Body, n)
	for i := range l {
		l[i] = body(w.mass(), at(w.coordinate(), w.coordinate()))
		if i == 0 {
			continue
		}
		other := l[w.word()%uint64(i)].X
		switch w.word() % 8 {
		case 0, 1:
			l[i].X = other
		case 2:
			// Within one cell, as 2^30 alone has nothing behind the point.
			if other.X.Hi < 1<<30 && other.Y.Hi < 1<<30 {
				l[i].X = at(of(other.X.Hi, w.word()), of(other.Y.Hi, w.word()))
			}
		case 3:
			l[i].X.X = other.X
		case 4:
			l[i].Mass = l[i-1].Mass
		}
	}
	return l
}

// wrong are n bodies that may not be, most of them.
func (w *words) wrong(n int) []api.Body {
	l := make([]api.Body, n)
	for i := range l {
		l[i] = api.Body{
			Mass: w.anyFix(), Radius: w.anyFix(), X: at(w.anyFix(), w.anyFix()), P: at(w.anyFix(), w.anyFix()),
			Fuel: w.anyFix(), Rate: w.anyFix(), Exhaust: w.anyFix(), Throttle: int(w.word()), Heading: math.MinInt,
		}
	}
	return l
}

// others are l with all other parts than mass and place as each of few says.
func others(l []api.Body) [][]api.Body {
	var all [][]api.Body
	for _, o := range []api.Body{
		{},
		{Radius: n(1 << 16), P: v(1<<35, -1<<35), Fuel: of(0, 1), Rate: n(1 << 16), Exhaust: n(1 << 16), Throttle: 100, Heading: 65535},
		{Radius: of(0, 1), P: at(of(0, 1), of(-1, most)), Throttle: 1, Heading: 1},
	} {
		same := slices.Clone(l)
		for i, b := range l {
			same[i] = o
			same[i].Mass, same[i].X = b.Mass, b.X
		}
		all = append(all, same)
	}
	return all
}

// turned is l with all places exchanged, or turned about, by the two axes.
func turned(l []api.Body, change func(x api.Vec) api.Vec) []api.Body {
	l = slices.Clone(l)
	for i := range l {
		l[i].X = change(l[i].X)
	}
	return l
}
