package mass_test

import (
	"math/big"
	"testing"

	"perigee/api"
	"perigee/mass"
	"perigee/tree"
)

// A body's moment is rounded by at most half a part, and masses are at least 2^-16: so where they are in the middle is
// told with at most 2^15 parts too much or too little, and half a part more by what it is divided by.
const nearly = 1 << 15

// checkWithin holds x on one axis against the ends of the bodies.
func checkWithin(t *testing.T, l []api.Body, x api.Vec, along func(x api.Vec) api.Fix) {
	t.Helper()
	var low, high *big.Int
	for _, b := range l {
		one := units(along(b.X))
		if low == nil || one.Cmp(low) < 0 {
			low = one
		}
		if high == nil || one.Cmp(high) > 0 {
			high = one
		}
	}
	slack, is := big.NewInt(nearly), units(along(x))
	if is.Cmp(new(big.Int).Sub(low, slack)) < 0 || is.Cmp(new(big.Int).Add(high, slack)) > 0 {
		t.Fatalf("9.3: the centre of %v is at %x", places(l), x)
	}
}

// checkCellsWithin holds all cells of l against their bodies.
func checkCellsWithin(t *testing.T, l []api.Body) {
	t.Helper()
	by := mass.Keyed(l)
	nodes := tree.Build(by)
	cells, e := mass.Cells(nodes, by, l)
	if e != api.OK || len(cells) != len(nodes) {
		t.Fatalf("9.2: Cells of %v are %d, %d", places(l), len(cells), e)
	}
	for i, node := range nodes {
		var in []api.Body
		for _, k := range by[node.From:node.To] {
			in = append(in, l[k.Id])
		}
		checkWithin(t, in, cells[i].At, func(x api.Vec) api.Fix { return x.X })
		checkWithin(t, in, cells[i].At, func(x api.Vec) api.Fix { return x.Y })
	}
}

func TestCellsAreNearlyWithin(t *testing.T) {
	var w words = 14
	for round := range 1500 {
		checkCellsWithin(t, w.bodies(round%50))
	}
	checkCellsWithin(t, w.bodies(3000))
	for _, x := range []api.Vec{v(0, 0), v(1<<30, -1<<30), v(-1<<30, 1<<30), at(of(-1, most), of(0, 1)), at(of(1<<30-1, most), of(-1<<30, 1))} {
		for many := 1; many < 12; many++ {
			checkCellsWithin(t, row(many, body(of(0, 1<<48), x)))
			checkCellsWithin(t, row(many, body(of(0, 1<<48+1), x), body(n(1<<20), x)))
		}
	}
}

// No nearer than that: of the lightest bodies each is rounded by as much as may be.
func TestNoNearer(t *testing.T) {
	for _, many := range []int{1, 2, 3, 4} {
		l := row(many, body(of(0, 1<<48), at(of(0, nearly), of(-1, most-nearly+1))))
		got, e := cellsBy(mass.Keyed(l), l)
		if e != api.OK || len(got) != 1 || got[0].At != at(of(0, 2*nearly), of(-1, most-2*nearly+1)) {
			t.Errorf("9.2: of %d of the lightest Cells = %x, %d", many, got, e)
		}
		checkCellsWithin(t, l)
	}
}

// Nodes' bodies are in their cells; those of one mass that is a power of two from 1 on have their centres there, exactly.
func TestCentresOfWholeMasses(t *testing.T) {
	var w words = 15
	for range 500 {
		l := w.bodies(1 + int(w.word()%40))
		for i := range l {
			l[i].Mass = n(1)
		}
		by := mass.Keyed(l)
		nodes := tree.Build(by)
		cells, _ := mass.Cells(nodes, by, l)
		for i, node := range nodes {
			if !isOf(keyOf(cells[i].At), node) {
				t.Fatalf("9.3: of %v the cell of level %d with key %x is at %x", places(l), node.Level, node.Key, cells[i].At)
			}
		}
	}
}
