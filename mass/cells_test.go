package mass_test

import (
	"math"
	"slices"
	"testing"

	"perigee/api"
	"perigee/mass"
	"perigee/tree"
)

func cell(m api.Fix, x api.Vec, wide int64) api.Cell { return api.Cell{Mass: m, At: x, Width: n(wide)} }

// cellsBy are Cells of the nodes of by.
func cellsBy(by []api.Keyed, l []api.Body) ([]api.Cell, api.Errno) {
	return mass.Cells(tree.Build(by), by, l)
}

func TestCellsOfNone(t *testing.T) {
	by, l := []api.Keyed{{Key: 5, Id: 0}}, []api.Body{whole(1, 2, 3)}
	for _, nodes := range [][]api.Node{nil, {}, make([]api.Node, 0, 4)} {
		for range 2 {
			if got, e := mass.Cells(nodes, nil, nil); len(got) != 0 || e != api.OK {
				t.Errorf("9.2: Cells of none = %v, %d", got, e)
			}
			if got, e := mass.Cells(nodes, []api.Keyed{}, []api.Body{}); len(got) != 0 || e != api.OK {
				t.Errorf("9.2: Cells of none = %v, %d", got, e)
			}
			if got, e := mass.Cells(nodes, by, l); len(got) != 0 || e != api.OK {
				t.Errorf("9.2: Cells of no node = %v, %d", got, e)
			}
		}
	}
}

func TestCellsByHand(t *testing.T) {
	const half = 1 << 63
	for _, x := range []struct {
		l    []api.Body
		want []api.Cell
	}{
		// The document's example.
		{[]api.Body{whole(1, 7, -8)}, []api.Cell{cell(n(1), v(7, -8), 1<<32)}},
		{[]api.Body{whole(1<<20, 1<<30, -1<<30)}, []api.Cell{cell(n(1<<20), v(1<<30, -1<<30), 1<<32)}},
		{[]api.Body{whole(1, 4, 0), whole(3, 0, 8), whole(4, -10, -2)}, []api.Cell{cell(n(8), at(of(-5, half), n(2)), 1<<32)}},
		{row(4, whole(2, 1, 1)), []api.Cell{cell(n(8), v(1, 1), 1<<32)}},
		// As many as part, in an order that is not that of their keys.
		{
			[]api.Body{whole(1, 8, 8), whole(2, -8, 8), whole(3, 8, -8), whole(4, -8, -8), whole(6, 16, 16)},
			[]api.Cell{cell(n(16), v(5, 4), 1<<32), cell(n(4), v(-8, -8), 1<<31), cell(n(3), v(8, -8), 1<<31), cell(n(2), v(-8, 8), 1<<31), cell(n(7), at(of(14, most/7*6+2), of(14, most/7*6+2)), 1<<31)},
		},
		{
			[]api.Body{whole(1, 1<<30, 1<<30), whole(1, 2, 4), whole(3, -6, -6), whole(1, 1<<30, 3), whole(1, 5, 5), whole(5, -10, 2)},
			[]api.Cell{
				cell(n(12), at(of(178956965, 0x9555555555555555), of(89478485, most/3*2+1)), 1<<32), cell(n(3), v(-6, -6), 1<<31), cell(n(5), v(-10, 2), 1<<31),
				cell(n(4), at(of(536870913, 3<<62), n(268435459)), 1<<31),
			},
		},
	} {
		if got, e := checkCells(t, x.l); !slices.Equal(got, x.want) || e != api.OK {
			t.Errorf("9.2: Cells of %v = %x, %d, not %x", places(x.l), got, e, x.want)
		}
	}
}

// More than go in a leaf, in one cell: the nodes go down to the last level, each with all of them.
func TestCellsDownToTheLastLevel(t *testing.T) {
	for _, x := range []api.Vec{v(0, 0), v(-1, 5), v(1<<30, -1<<30), at(of(-1<<30, 9), of(1<<30-1, most))} {
		for many := 1; many < 9; many++ {
			l := row(many, body(n(3), x))
			got, e := checkCells(t, l)
			if many <= 4 && len(got) != 1 || many > 4 && len(got) != 33 || e != api.OK {
				t.Fatalf("9.2: Cells of %d at %v are %d, %d", many, x, len(got), e)
			}
			for level, c := range got {
				if c != cell(n(int64(3*many)), x, 1<<(32-level)) {
					t.Errorf("9.2: of %d at %v level %d is %v", many, x, level, c)
				}
			}
		}
	}
}

// Bodies that part at the last level alone, whose nodes ahead have all of them.
func TestCellsThatPartLate(t *testing.T) {
	l := []api.Body{whole(1, 3, 3), whole(2, 2, 3), whole(3, 3, 2), whole(4, 2, 2), whole(2, 2, 2)}
	got, e := checkCells(t, l)
	if len(got) != 36 || e != api.OK {
		t.Fatalf("9.2: Cells of those that part late are %d, %d", len(got), e)
	}
	for level, c := range got[:32] {
		if c != cell(n(12), at(of(2, most/3), of(2, 1<<62)), 1<<(32-level)) {
			t.Errorf("9.2: level %d of those that part late is %x", level, c)
		}
	}
	if last := []api.Cell{cell(n(6), v(2, 2), 1), cell(n(3), v(3, 2), 1), cell(n(2), v(2, 3), 1), cell(n(1), v(3, 3), 1)}; !slices.Equal(got[32:], last) {
		t.Errorf("9.2: those that part late end with %x", got[32:])
	}
}

func TestCellsOfAny(t *testing.T) {
	var w words = 10
	for round := range 600 {
		if _, e := checkCells(t, w.bodies(round%60)); e != api.OK {
			t.Fatalf("9.2: Cells of %d bodies that may be: %d", round%60, e)
		}
	}
	checkCells(t, w.bodies(800))
}

// Each node's mass and place are those of Centre, told of its own bodies.
func TestCellsAreCentres(t *testing.T) {
	var w words = 11
	l := w.bodies(20000)
	by := mass.Keyed(l)
	nodes := tree.Build(by)
	cells, e := mass.Cells(nodes, by, l)
	if len(cells) != len(nodes) || e != api.OK {
		t.Fatalf("9.2: Cells of %d nodes are %d, %d", len(nodes), len(cells), e)
	}
	for i, node := range nodes {
		var in []api.Body
		for _, k := range by[node.From:node.To] {
			in = append(in, l[k.Id])
		}
		if m, x, _ := mass.Centre(in); cells[i] != (api.Cell{Mass: m, At: x, Width: tree.Width(node.Level)}) {
			t.Fatalf("9.2: of %v Cells tells %v, Centre %v, %v", node, cells[i], m, x)
		}
	}
}

func TestOtherPartsHaveNoCells(t *testing.T) {
	var w words = 12
	for range 50 {
		l := w.bodies(40)
		want, _ := cellsBy(mass.Keyed(l), l)
		for _, same := range others(l) {
			if got, e := checkCells(t, same); !slices.Equal(got, want) || e != api.OK {
				t.Fatalf("9.2: with other parts Cells of %v = %v, %d, not %v", places(l), got, e, want)
			}
		}
	}
}

// Sums are made in the order of by, not in that of the bodies: in one of the two orders a step is beyond the numbers, on
// either axis. By their keys those come first that are below nought.
func TestCellsInOrder(t *testing.T) {
	heavy := func(x, y int64) api.Body { return whole(1<<20, x, y) }
	swap := func(x api.Vec) api.Vec { return at(x.Y, x.X) }
	byTurns := row(9000, heavy(1<<30, 7), heavy(-1<<30, 7))
	backLast := append(row(4500, heavy(1<<30, 5), heavy(1<<30, -5)), row(3000, heavy(-1<<30, 5), heavy(-1<<30, -5))...)
	for _, x := range []struct {
		l               []api.Body
		centre, ofCells api.Errno
	}{
		{byTurns, api.OK, api.ErrOver},
		{turned(byTurns, swap), api.OK, api.ErrOver},
		{backLast, api.ErrOver, api.OK},
		{turned(backLast, swap), api.ErrOver, api.OK},
	} {
		if _, _, e := checkCentre(t, x.l); e != x.centre {
			t.Errorf("9.1: Centre of %d, %v, is told with %d, not %d", len(x.l), places(x.l), e, x.centre)
		}
		by := mass.Keyed(x.l)
		nodes := tree.Build(by)
		got, e := mass.Cells(nodes, by, x.l)
		if e != x.ofCells || e == api.OK && len(got) != len(nodes) || e != api.OK && len(got) != 0 {
			t.Errorf("9.2: Cells of %d, %v, are %d, %d, not %d", len(x.l), places(x.l), len(got), e, x.ofCells)
		}
		if want, _ := cellsOf(nodes[:1], by, x.l); e == api.OK && got[0] != want[0] {
			t.Errorf("9.2: the first cell of %d, %v, is %x, not %x", len(x.l), places(x.l), got[0], want[0])
		}
	}
}

// The first cell is not beyond, but one of its kids is: then there are no cells.
func TestCellsBeyond(t *testing.T) {
	const many = 1<<13 - 1
	for _, more := range []int{0, 1} {
		l := slices.Concat(row(many+more, whole(1<<20, 1<<30, 1<<30)), row(2, whole(1<<20, -1<<30, -1<<30)))
		by := mass.Keyed(l)
		nodes := tree.Build(by)
		for range 2 {
			got, e := mass.Cells(nodes, by, l)
			if more == 0 && (e != api.OK || len(got) != len(nodes)) || more == 1 && (e != api.ErrOver || len(got) != 0) {
				t.Errorf("9.2: Cells of %d at one edge are %d, %d", many+more, len(got), e)
			}
		}
		if first, e := mass.Cells(nodes[:1], by, l); e != api.OK || first[0].Mass != n(int64(len(l))<<20) {
			t.Errorf("9.2: the first cell, with %d at one edge, = %v, %d", many+more, first, e)
		}
	}
}

// Nodes, keys and bodies that do not go together: nothing is said of what is told, but that it is told.
func TestCellsOfWhatDoesNotGoTogether(t *testing.T) {
	l := row(9, whole(1, 2, 3), whole(1, -2, 9))
	by := mass.Keyed(l)
	places := []int{math.MinInt, -1 << 40, -1, 0, 1, 7, 17, 18, 19, 1 << 40, math.MaxInt}
	for _, from := range places {
		for _, to := range places {
			for _, level := range []int{math.MinInt, -1, 0, 32, 33, math.MaxInt} {
				nodes := []api.Node{{Level: level, From: from, To: to, Kids: [4]int{from, to, level, -9}}}
				for _, by := range [][]api.Keyed{nil, by, {{Key: 3, Id: from}, {Key: 2, Id: to}, {Key: 9, Id: 1}}} {
					for _, l := range [][]api.Body{nil, l, {{}}} {
						if got, e := mass.Cells(nodes, by, l); e == api.OK && len(got) != 1 || e != api.OK && len(got) != 0 {
							t.Errorf("R4: Cells of %v, %v, of %d bodies = %v, %d", nodes, by, len(l), got, e)
						}
					}
				}
			}
		}
	}
	var w words = 13
	for round := range 2000 {
		l := w.wrong(round % 30)
		by := mass.Keyed(l)
		nodes := tree.Build(by)
		if got, e := mass.Cells(nodes, by, l); e == api.OK && len(got) != len(nodes) || e != api.OK && len(got) != 0 {
			t.Fatalf("R4: Cells of %d that may not be = %v, %d", len(l), got, e)
		}
	}
}

// Many at one place are asked for at each level.
func TestCellsOfMany(t *testing.T) {
	const many = 100000
	l := row(many, whole(2, 3, -4))
	got, e := cellsBy(mass.Keyed(l), l)
	if len(got) != 33 || e != api.OK {
		t.Fatalf("9.2: Cells of %d at one place are %d, %d", many, len(got), e)
	}
	for level, c := range got {
		if c != cell(n(2*many), v(3, -4), 1<<(32-level)) {
			t.Errorf("9.2: of %d at one place level %d is %v", many, level, c)
		}
	}
}
