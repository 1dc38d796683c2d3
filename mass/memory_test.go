package mass_test

import (
	"slices"
	"testing"

	"perigee/api"
	"perigee/mass"
	"perigee/tree"
)

// What is written where nobody else may see it.
var (
	markBody  = body(n(77), v(-7, 77))
	markKeyed = api.Keyed{Key: 0xdead, Id: 0}
	markNode  = api.Node{Level: 7, Key: 0xdead, From: 0, To: 1}
	markCell  = cell(n(-7), v(-77, 78), 79)
)

func lists() [][]api.Body {
	var w words = 16
	return [][]api.Body{
		{}, {whole(1, 2, 3)}, {whole(1, 2, 3), whole(1, -2, 3)}, row(3, whole(1, 0, 0)), row(7, whole(3, 5, -5)),
		{whole(1, 8, 8), whole(2, -8, 8), whole(3, 8, -8), whole(4, -8, -8), whole(6, 16, 16)}, w.bodies(9), w.bodies(30),
	}
}

// roomy is l with spare room, in which there is something else.
func roomy[T any](l []T, other T) []T {
	all := append(slices.Clone(l), other, other, other, other, other, other, other)
	return all[:len(l)]
}

// spoil writes into all of l, its spare room too, and appends to it.
func spoil[T any](l []T, mark T) {
	_ = append(l, mark, mark)
	all := l[:cap(l)]
	for i := range all {
		all[i] = mark
	}
}

// Who writes into what Keyed told changes nothing of what was handed in, nor of what was told ahead of it or after it.
func TestKeyedIsNew(t *testing.T) {
	for _, short := range lists() {
		for _, l := range [][]api.Body{short, roomy(short, markBody)} {
			was, want := slices.Clone(l[:cap(l)]), keyedOf(l)
			first, second := mass.Keyed(l), mass.Keyed(l)
			spoil(first, markKeyed)
			if !slices.Equal(l[:cap(l)], was) {
				t.Errorf("R3: who writes into Keyed of %v changes it", places(was))
			}
			if third := mass.Keyed(l); !slices.Equal(second, want) || !slices.Equal(third, want) {
				t.Errorf("R3: Keyed(%v) = %v, then %v, after what it told was written into", places(l), second, third)
			}
			spoil(l, markBody)
			if !slices.Equal(second, want) {
				t.Errorf("R3: Keyed(%v) was told, which is %v after what was handed in was written into", places(was), second)
			}
		}
	}
}

// asked is what Cells is asked with.
type asked struct {
	nodes []api.Node
	by    []api.Keyed
	l     []api.Body
}

// askedOf is l, with by and nodes, with room to spare or without.
func askedOf(l []api.Body, room bool) asked {
	by := keyedOf(l)
	a := asked{tree.Build(by), by, slices.Clone(l)}
	if room {
		return asked{roomy(a.nodes, markNode), roomy(a.by, markKeyed), roomy(a.l, markBody)}
	}
	return a
}

func (a asked) cells() []api.Cell {
	cells, _ := mass.Cells(a.nodes, a.by, a.l)
	return cells
}

// whole is all of a, with its spare room.
func (a asked) whole() asked {
	return asked{slices.Clone(a.nodes[:cap(a.nodes)]), slices.Clone(a.by[:cap(a.by)]), slices.Clone(a.l[:cap(a.l)])}
}

func (a asked) same(b asked) bool {
	return slices.Equal(a.nodes, b.nodes) && slices.Equal(a.by, b.by) && slices.Equal(a.l, b.l)
}

// So it is with Cells, and with each of the lists that are handed in.
func TestCellsAreNew(t *testing.T) {
	for _, l := range lists() {
		for _, room := range []bool{false, true} {
			a := askedOf(l, room)
			was := a.whole()
			want, _ := cellsOf(a.nodes, a.by, a.l)
			first, second := a.cells(), a.cells()
			spoil(first, markCell)
			if !a.whole().same(was) {
				t.Errorf("R3: who writes into Cells of %v changes what was handed in", places(l))
			}
			if third := a.cells(); !slices.Equal(second, want) || !slices.Equal(third, want) {
				t.Errorf("R3: Cells of %v = %v, then %v, after what it told was written into", places(l), second, third)
			}
			spoil(a.nodes, markNode)
			spoil(a.by, markKeyed)
			spoil(a.l, markBody)
			if !slices.Equal(second, want) {
				t.Errorf("R3: Cells of %v were told, which are %v after what was handed in was written into", places(l), second)
			}
		}
	}
}

// Who appends to what was told ahead of it changes nothing of what was told later, nor the other way round.
func TestToldIsAppendedTo(t *testing.T) {
	other := cell(n(1), v(2, 3), 4)
	for _, l := range lists() {
		a, keyed := askedOf(l, true), keyedOf(l)
		want, _ := cellsOf(a.nodes, a.by, a.l)
		firstBy := mass.Keyed(a.l)
		longerBy := append(firstBy, markKeyed)
		secondBy := mass.Keyed(a.l)
		longestBy := append(secondBy, api.Keyed{})
		if !slices.Equal(firstBy, keyed) || !slices.Equal(secondBy, keyed) || longerBy[len(keyed)] != markKeyed || longestBy[len(keyed)] != (api.Keyed{}) {
			t.Errorf("R3: two of Keyed(%v) share spare room", places(l))
		}
		first := a.cells()
		longer := append(first, markCell)
		second := a.cells()
		longest := append(second, other)
		if !slices.Equal(first, want) || !slices.Equal(second, want) || longer[len(want)] != markCell || longest[len(want)] != other {
			t.Errorf("R3: two of Cells of %v share spare room", places(l))
		}
	}
}

// No call writes into what is handed in, or behind its end, nor takes anything from there.
func TestHandedInStays(t *testing.T) {
	for _, l := range lists() {
		a := askedOf(l, true)
		was := a.whole()
		want, _ := cellsOf(a.nodes, a.by, a.l)
		if got := mass.Keyed(a.l); !slices.Equal(got, keyedOf(l)) {
			t.Errorf("R3: Keyed(%v) = %v, with others behind its end", places(l), got)
		}
		m, x, e := mass.Centre(a.l)
		if wantM, wantX, wantE := centreOf(l); m != wantM || x != wantX || e != wantE {
			t.Errorf("R3: Centre(%v) = %v, %v, %d, with others behind its end", places(l), m, x, e)
		}
		if got := a.cells(); !slices.Equal(got, want) {
			t.Errorf("R3: Cells of %v = %v, with others behind the ends", places(l), got)
		}
		if !a.whole().same(was) {
			t.Errorf("R3: of %v what was handed in is not as it was", places(l))
		}
	}
}

// What is told of other bodies in between has no say, even where nodes have the same places in other lists.
func TestSameCallsTellTheSame(t *testing.T) {
	all := lists()
	for _, l := range lists() {
		all = append(all, turned(l, func(x api.Vec) api.Vec { return at(x.Y, neg(x.X)) }))
	}
	for range 2 {
		for _, l := range all {
			checkKeyed(t, l)
			checkCentre(t, l)
			checkCells(t, l)
			// An error in between has none, either.
			mass.Cells([]api.Node{markNode}, []api.Keyed{markKeyed}, nil)
			mass.Centre(nil)
		}
	}
}

// Those who ask at one time don't meet.
func TestAskedAtOneTime(t *testing.T) {
	wrong := make(chan int)
	for i := range 8 {
		go func() {
			w, count := words(i), 0
			for range 50 {
				l := w.bodies(20)
				a := askedOf(l, false)
				want, _ := cellsOf(a.nodes, a.by, l)
				if !slices.Equal(mass.Keyed(l), a.by) || !slices.Equal(a.cells(), want) {
					count++
				}
			}
			wrong <- count
		}()
	}
	for range 8 {
		if n := <-wrong; n != 0 {
			t.Errorf("R1: %d wrong of those asked at one time", n)
		}
	}
}
