package mass_test

import (
	"math/big"
	"slices"
	"testing"

	"perigee/api"
	"perigee/mass"
	"perigee/tree"
)

// coordinateOf is the number of a's cell on one axis, worked out without limits.
func coordinateOf(a api.Fix) *big.Int {
	// Of a divisor above nought Div leaves a rest that is never below it: so it tells the floor.
	cell := new(big.Int).Div(units(a), power(64))
	cell.Add(cell, power(31))
	if cell.Sign() < 0 {
		return new(big.Int)
	}
	if cell.BitLen() > 32 {
		return new(big.Int).Sub(power(32), big.NewInt(1))
	}
	return cell
}

// keyOf is the key of the cell of a place, bit by bit.
func keyOf(x api.Vec) uint64 {
	a, b, key := coordinateOf(x.X), coordinateOf(x.Y), new(big.Int)
	for i := range 32 {
		key.SetBit(key, 2*i, a.Bit(i))
		key.SetBit(key, 2*i+1, b.Bit(i))
	}
	return key.Uint64()
}

// keyedOf is what Keyed must tell: each body is laid ahead of the first one whose key is above its own.
func keyedOf(l []api.Body) []api.Keyed {
	keyed := []api.Keyed{}
	for i, b := range l {
		k := api.Keyed{Key: keyOf(b.X), Id: i}
		place := slices.IndexFunc(keyed, func(o api.Keyed) bool { return o.Key > k.Key })
		if place == -1 {
			place = len(keyed)
		}
		keyed = slices.Insert(keyed, place, k)
	}
	return keyed
}

// added is the sum of what each number is, from nought on: none, where a step is beyond the numbers.
func added(all []*big.Int) (*big.Int, api.Errno) {
	sum := new(big.Int)
	for _, one := range all {
		if _, e := ofUnits(one); e != api.OK {
			return nil, e
		}
		sum.Add(sum, one)
		if _, e := ofUnits(sum); e != api.OK {
			return nil, e
		}
	}
	return sum, api.OK
}

// axisOf is where the bodies are in the middle of one axis.
func axisOf(l []api.Body, m *big.Int, along func(x api.Vec) api.Fix) (api.Fix, api.Errno) {
	var moments []*big.Int
	for _, b := range l {
		moments = append(moments, near(new(big.Int).Mul(units(b.Mass), units(along(b.X))), power(64)))
	}
	moment, e := added(moments)
	if e != api.OK {
		return nought, e
	}
	if m.Sign() == 0 {
		return nought, api.ErrZero
	}
	return ofUnits(near(moment.Lsh(moment, 64), m))
}

// centreOf is what Centre must tell, worked out without limits.
func centreOf(l []api.Body) (api.Fix, api.Vec, api.Errno) {
	if len(l) == 0 {
		return nought, api.Vec{}, api.ErrArg
	}
	var masses []*big.Int
	for _, b := range l {
		masses = append(masses, units(b.Mass))
	}
	m, e := added(masses)
	if e != api.OK {
		return nought, api.Vec{}, e
	}
	x, e := axisOf(l, m, func(x api.Vec) api.Fix { return x.X })
	if e != api.OK {
		return nought, api.Vec{}, e
	}
	y, e := axisOf(l, m, func(x api.Vec) api.Fix { return x.Y })
	if e != api.OK {
		return nought, api.Vec{}, e
	}
	all, e := ofUnits(m)
	return all, at(x, y), e
}

// isOf tells whether a body with this key is of the node, by the cells that the node's key and level say, alone.
func isOf(key uint64, node api.Node) bool {
	return key>>(64-2*node.Level) == node.Key>>(64-2*node.Level)
}

// cellsOf is what Cells must tell of Build of by: bodies are found by their keys, not by the places that nodes tell.
func cellsOf(nodes []api.Node, by []api.Keyed, l []api.Body) ([]api.Cell, api.Errno) {
	var cells []api.Cell
	for _, node := range nodes {
		var in []api.Body
		for _, k := range by {
			if isOf(k.Key, node) {
				in = append(in, l[k.Id])
			}
		}
		m, x, e := centreOf(in)
		if e != api.OK {
			return nil, e
		}
		wide, _ := ofUnits(power(uint(96 - node.Level)))
		cells = append(cells, api.Cell{Mass: m, At: x, Width: wide})
	}
	return cells, api.OK
}

func checkKeyed(t *testing.T, l []api.Body) []api.Keyed {
	t.Helper()
	was := slices.Clone(l)
	got := mass.Keyed(l)
	if want := keyedOf(l); !slices.Equal(got, want) {
		t.Fatalf("9.1: Keyed(%v) = %v, not %v", places(l), got, want)
	}
	if !slices.Equal(l, was) {
		t.Fatalf("R3: Keyed changed %v to %v", was, l)
	}
	return got
}

func checkCentre(t *testing.T, l []api.Body) (api.Fix, api.Vec, api.Errno) {
	t.Helper()
	was := slices.Clone(l)
	m, x, e := mass.Centre(l)
	if wantM, wantX, wantE := centreOf(l); m != wantM || x != wantX || e != wantE {
		t.Fatalf("9.1: Centre of %d, %v, = %v, %v, %d, not %v, %v, %d", len(l), places(l), m, x, e, wantM, wantX, wantE)
	}
	if !slices.Equal(l, was) {
		t.Fatalf("R3: Centre changed %v to %v", was, l)
	}
	return m, x, e
}

// checkCells holds Cells of l's own nodes.
func checkCells(t *testing.T, l []api.Body) ([]api.Cell, api.Errno) {
	t.Helper()
	by := mass.Keyed(l)
	nodes := tree.Build(by)
	wasL, wasBy, wasNodes := slices.Clone(l), slices.Clone(by), slices.Clone(nodes)
	got, e := mass.Cells(nodes, by, l)
	if want, wantE := cellsOf(nodes, by, l); !slices.Equal(got, want) || e != wantE {
		t.Fatalf("9.2: Cells of %d, %v, = %v, %d, not %v, %d", len(l), places(l), got, e, want, wantE)
	}
	if !slices.Equal(l, wasL) || !slices.Equal(by, wasBy) || !slices.Equal(nodes, wasNodes) {
		t.Fatalf("R3: Cells changed what was handed in, of %v", places(wasL))
	}
	return got, e
}

// places are the masses and the places of l, of few, for what is told of a fault.
func places(l []api.Body) []api.Cell {
	var told []api.Cell
	for _, b := range l[:min(len(l), 12)] {
		told = append(told, api.Cell{Mass: b.Mass, At: b.X})
	}
	return told
}
