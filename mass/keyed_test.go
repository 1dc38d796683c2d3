package mass_test

import (
	"math"
	"slices"
	"testing"

	"perigee/api"
	"perigee/mass"
)

func TestKeyedOfNone(t *testing.T) {
	for _, l := range [][]api.Body{nil, {}, make([]api.Body, 0, 5), row(3, whole(1, 2, 3))[:0]} {
		if got := mass.Keyed(l); len(got) != 0 {
			t.Errorf("9.1: Keyed of none is %v", got)
		}
	}
}

func TestKeyedByHand(t *testing.T) {
	const middle = 3 << 62
	keyed := func(key uint64, id int) api.Keyed { return api.Keyed{Key: key, Id: id} }
	for _, x := range []struct {
		l    []api.Body
		want []api.Keyed
	}{
		{[]api.Body{whole(1, 0, 0)}, []api.Keyed{keyed(middle, 0)}},
		{[]api.Body{whole(7, 3, 0)}, []api.Keyed{keyed(middle+5, 0)}},
		{[]api.Body{whole(1, -1, -1)}, []api.Keyed{keyed(1<<62-1, 0)}},
		{[]api.Body{body(n(1), at(of(-1, most), of(0, most)))}, []api.Keyed{keyed(2<<62+(1<<62-1)/3, 0)}},
		// One in each quarter, ahead of one another.
		{[]api.Body{whole(1, 0, 0), whole(1, -1, 0), whole(1, 0, -1), whole(1, -1, -1)}, []api.Keyed{
			keyed(1<<62-1, 3), keyed(1<<62+(1<<62-1)/3*2, 2), keyed(2<<62+(1<<62-1)/3, 1), keyed(middle, 0),
		}},
		// Those of one cell stay in their order, wherever in it they are.
		{[]api.Body{body(n(3), at(of(2, most), n(0))), body(n(2), at(n(2), of(0, 5))), body(n(1), at(of(2, 1), of(0, most)))}, []api.Keyed{keyed(middle+4, 0), keyed(middle+4, 1), keyed(middle+4, 2)}},
		{[]api.Body{whole(1, 9, 9), whole(1, 0, 1), whole(2, 0, 1), whole(1, 0, 0), whole(1, 0, 1)}, []api.Keyed{
			keyed(middle, 3), keyed(middle+2, 1), keyed(middle+2, 2), keyed(middle+2, 4), keyed(middle+0xc3, 0),
		}},
	} {
		if got := checkKeyed(t, x.l); !slices.Equal(got, x.want) {
			t.Errorf("9.1: Keyed(%v) = %x, not %x", places(x.l), got, x.want)
		}
	}
}

func TestKeyedOfOneCell(t *testing.T) {
	var w words = 1
	for _, x := range []int64{-1 << 30, -7, -1, 0, 1, 1<<30 - 1} {
		for many := range 40 {
			l := row(many, whole(1, x, -x-1))
			for i := range l {
				l[i].X.X.Lo, l[i].X.Y.Lo, l[i].Mass = w.word(), w.word(), w.mass()
			}
			for i, k := range checkKeyed(t, l) {
				if k.Id != i {
					t.Fatalf("9.1: body %d of %d in one cell has place %d", k.Id, many, i)
				}
			}
		}
	}
}

func TestKeyedAtTheEdges(t *testing.T) {
	ends := []api.Fix{n(-1 << 30), of(-1<<30, 1), of(-1<<30, most), n(-1), of(-1, most), nought, of(0, 1), of(0, most), n(1), n(1<<30 - 1), of(1<<30-1, most), n(1 << 30)}
	var l []api.Body
	for i, x := range ends {
		for j, y := range ends {
			l = append(l, body(n(int64(1+i*j)), at(y, x)), body(n(1), at(x, y)))
		}
	}
	checkKeyed(t, l)
	slices.Reverse(l)
	checkKeyed(t, l)
}

func TestKeyedOfAny(t *testing.T) {
	var w words = 2
	for round := range 1500 {
		checkKeyed(t, w.bodies(round%100))
	}
	checkKeyed(t, w.bodies(5000))
}

// Mass, and what else a body is, has no say.
func TestOtherPartsAreNotKeyed(t *testing.T) {
	var w words = 3
	for range 50 {
		l := w.bodies(40)
		want := keyedOf(l)
		for _, same := range others(l) {
			for i := range same {
				same[i].Mass = w.mass()
			}
			if got := checkKeyed(t, same); !slices.Equal(got, want) {
				t.Fatalf("9.1: with other parts Keyed of %v is %v, not %v", places(l), got, want)
			}
		}
	}
}

// Bodies may not be out of the world; they have the keys of the cells that are next to them.
func TestKeyedOfWhatMayNotBe(t *testing.T) {
	checkKeyed(t, []api.Body{whole(0, 1<<40, 0), whole(-1, 0, -1<<40), whole(1, 1<<31-1, math.MinInt64), {}, whole(1, math.MaxInt64, math.MinInt64+1)})
	var w words = 4
	for round := range 300 {
		checkKeyed(t, w.wrong(round%50))
	}
}
