package direct_test

import (
	"reflect"
	"slices"
	"testing"

	"perigee/api"
	"perigee/direct"
)

// What is written where nobody else may see it.
var (
	markBody = whole(77, 7, -7, 77, -77)
	markWay  = v(-77, 78)
)

func worlds() []asked {
	var w words = 12
	return []asked{
		with(n(1), nought, n(1)), with(n(4), nought, n(1), whole(1, 0, 0, 5, 6)), with(n(4), nought, n(1), whole(1, 0, 0, 5, 6), whole(2, 2, 0, -1, 0)),
		with(n(4), nought, n(-1), whole(1, 0, 0, 5, 6), whole(2, 2, 0, -1, 0)), with(n(1), nought, n(1), two(v(1, 1), v(1, 1))...),
		with(n(1), nought, n(1), two(v(1<<31, 0), v(-1<<31, 0))...), w.calm(3), w.calm(8), w.calm(api.MaxBodies),
	}
}

// roomy is a with spare room behind its bodies, in which there is something else.
func (a asked) roomy() asked {
	a = a.copied()
	all := append(slices.Clone(a.w.Bodies), slices.Repeat([]api.Body{markBody}, 7)...)
	a.w.Bodies = all[:len(a.w.Bodies)]
	return a
}

// whole is all of a world anew, with what is behind the end of its bodies.
func (a asked) whole() asked {
	a.w.Bodies = a.w.Bodies[:cap(a.w.Bodies)]
	return a.copied()
}

// spoil writes into all of l, its spare room too, and appends to it.
func spoil[T any](l []T, mark T) {
	_ = append(l, mark, mark)
	all := l[:cap(l)]
	for i := range all {
		all[i] = mark
	}
}

// No call writes into the world that is handed in, or behind the end of its bodies, nor takes anything from there.
func TestHandedInStays(t *testing.T) {
	for _, known := range worlds() {
		for _, a := range []asked{known.copied(), known.roomy()} {
			was := a.whole()
			check(t, a)
			if !reflect.DeepEqual(a.whole(), was) {
				t.Errorf("R3: Kick of %v leaves it as %v", was, a)
			}
		}
	}
}

// Who writes into what was told, or into what was handed in, changes nothing else that was told, or is told later.
func TestToldIsNew(t *testing.T) {
	for _, known := range worlds() {
		for _, a := range []asked{known.copied(), known.roomy()} {
			was := a.whole()
			want, _ := a.want()
			first, _ := direct.Kick(a.w, a.h)
			second, _ := direct.Kick(a.w, a.h)
			spoil(first, markWay)
			if !reflect.DeepEqual(a.whole(), was) {
				t.Errorf("R3: who writes into Kick of %v changes it", was)
			}
			third, _ := direct.Kick(a.w, a.h)
			spoil(a.w.Bodies, markBody)
			if !slices.Equal(second, want) || !slices.Equal(third, want) {
				t.Errorf("R3: Kick of %v = %x, then %x, after what was told and handed in was written into", known, second, third)
			}
			spoil(second, markWay)
			if !slices.Equal(third, want) {
				t.Errorf("R3: two of Kick of %v share memory", known)
			}
		}
	}
}

// Who appends to what was told ahead of it changes nothing of what was told later, nor the other way round.
func TestToldIsAppendedTo(t *testing.T) {
	other := v(5, 5)
	for _, a := range worlds() {
		want, _ := a.want()
		first, _ := direct.Kick(a.w, a.h)
		longer := append(first, markWay)
		second, _ := direct.Kick(a.w, a.h)
		longest := append(second, other)
		if !slices.Equal(first, want) || !slices.Equal(second, want) || longer[len(want)] != markWay || longest[len(want)] != other {
			t.Errorf("R3: two of Kick of %v share spare room", a)
		}
	}
}

// alike are worlds that differ from one another in one place alone, or in the order of their bodies.
func alike() []asked {
	known := with(n(2), n(1), n(3), whole(1, 0, 0, 5, 6), whole(2, 2, 0, -1, 0), whole(3, -1, 4, 0, 2))
	l := []asked{known, known.changed(func(b *api.Body) { b.X = at(b.X.Y, b.X.X) }), known.changed(func(b *api.Body) { b.P = about(b.P) })}
	for i := range known.w.Bodies {
		turned := known.copied()
		turned.w.Bodies = append(turned.w.Bodies[i:], turned.w.Bodies[:i]...)
		l = append(l, turned)
	}
	for i := range known.numbers() {
		for _, x := range []api.Fix{nought, part, n(2), n(-1), greatest} {
			a := known.copied()
			*a.numbers()[i] = x
			l = append(l, a)
		}
	}
	return l
}

// answer is all that Kick tells.
type answer struct {
	got []api.Vec
	e   api.Errno
}

func (a asked) answer() answer {
	got, e := direct.Kick(a.w, a.h)
	return answer{got, e}
}

func (a answer) same(b answer) bool { return slices.Equal(a.got, b.got) && a.e == b.e }

// A call tells the same whatever was told before it: each, behind each other one.
func TestKickHangsOnNothingElse(t *testing.T) {
	l := alike()
	first := make([]answer, len(l))
	for i, a := range l {
		check(t, a)
		first[i] = a.answer()
	}
	for i, a := range l {
		for j, before := range l {
			if got := before.answer(); !got.same(first[j]) {
				t.Fatalf("R1: Kick of %v = %x, then %x", before, first[j], got)
			}
			if got := a.answer(); !got.same(first[i]) {
				t.Fatalf("R1: Kick of %v = %x, but behind %v it is %x", a, first[i], before, got)
			}
		}
	}
}

// Those who ask at one time don't meet, even where it is one world that they ask of.
func TestAskedAtOneTime(t *testing.T) {
	var common words = 13
	shared := common.calm(api.MaxBodies)
	known := shared.answer()
	wrong := make(chan int)
	for i := range 8 {
		go func() {
			w, count := words(i), 0
			for j := range 60 {
				a := w.fast(j % 9)
				want, stop := a.want()
				if !a.answer().same(answer{want, stop.e}) || !shared.answer().same(known) {
					count++
				}
			}
			wrong <- count
		}()
	}
	for range 8 {
		if n := <-wrong; n != 0 {
			t.Errorf("R1: %d wrong of those asked at one time", n)
		}
	}
}

// checkWhatMayNotBe holds of a world that may not be that Kick ends, tells the same again, and nothing beside an error.
func checkWhatMayNotBe(t *testing.T, a asked) {
	t.Helper()
	got := a.answer()
	if !got.same(a.answer()) || got.e != api.OK && len(got.got) != 0 || got.e == api.OK && len(got.got) != len(a.w.Bodies) {
		t.Errorf("R1, R4: Kick of %v = %x", a, got)
	}
}

// Of what may not be nothing is said; still every call ends.
func TestKickOfWhatMayNotBe(t *testing.T) {
	for _, known := range alike() {
		for i := range known.numbers() {
			for j := range i + 1 {
				a := known.copied()
				*a.numbers()[i], *a.numbers()[j] = least, least
				checkWhatMayNotBe(t, a)
			}
		}
	}
	var w words = 14
	for round := range 2000 {
		a := with(nought, nought, nought, make([]api.Body, 2+round%5)...)
		for _, p := range a.numbers() {
			*p = w.anyFix()
		}
		checkWhatMayNotBe(t, a)
	}
}

// More bodies than there may be, and other parts that are not as those of a world.
func TestKickOfTooMany(t *testing.T) {
	var w words = 15
	for _, many := range []int{api.MaxBodies + 1, 2 * api.MaxBodies, 300} {
		a := w.calm(many)
		checkWhatMayNotBe(t, a)
		a.w.At, a.w.Gravity, a.w.Step, a.w.Tick, a.w.H = []int{-7}, -1, 99, -5, least
		checkWhatMayNotBe(t, a)
		// All at one place.
		a.w.Eps = nought
		a = a.changed(func(b *api.Body) { b.X = v(1, 2) })
		checkWhatMayNotBe(t, a)
	}
	many := make([]api.Body, 1<<20)
	if got, e := direct.Kick(api.World{Bodies: many}, nought); e != api.OK && len(got) != 0 {
		t.Errorf("R4: Kick of %d at one place = %d beside %d", len(many), len(got), e)
	}
}
