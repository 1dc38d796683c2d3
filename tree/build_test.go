package tree_test

import (
	"math"
	"slices"
	"testing"

	"perigee/api"
	"perigee/tree"
)

func TestBuildOfNothing(t *testing.T) {
	for _, l := range [][]api.Keyed{nil, {}, make([]api.Keyed, 0, 7), list(1, 2, 3)[:0]} {
		if got := tree.Build(l); len(got) != 0 {
			t.Errorf("8.1: Build of nothing is %v", got)
		}
	}
}

func TestBuildOfOne(t *testing.T) {
	for _, key := range []uint64{0, 1, 3, 5, 1 << 62, 3 << 62, 1<<63 - 1, 1 << 63, most - 1, most} {
		for _, id := range []int{0, 1, -1, math.MinInt, math.MaxInt} {
			l := []api.Keyed{of(key, id)}
			if got := tree.Build(l); !slices.Equal(got, []api.Node{leaf(0, 0, 0, 1)}) {
				t.Errorf("8.1: Build(%x) = %v", l, got)
			}
			check(t, l)
		}
	}
}

func TestBuildOfWhatDoesNotRise(t *testing.T) {
	for _, l := range [][]api.Keyed{
		list(2, 1), list(1, 0), list(most, 0), list(most, most-1), list(1<<63, 1<<63-1), list(3<<62, 2<<62), list(1<<62, 0),
		list(1, 2, 3, 4, 3), list(2, 1, 3, 4, 5), list(1, 2, 3, 5, 4, 6, 7), list(5, 4, 3, 2, 1), list(0, 0, 0, 0, 1, 0),
		list(1, 1<<62, 1<<62, 2<<62, 3<<62+1, 3<<62), list(1, 1, 3<<62, 3<<62, 2<<62, 2<<62), list(3<<62, 3<<62, 3<<62, 3<<62, 3<<62, 0),
	} {
		was := slices.Clone(l)
		for range 2 {
			if got := tree.Build(l); len(got) != 0 {
				t.Errorf("8.1: Build(%x) = %v", l, got)
			}
		}
		if !slices.Equal(l, was) {
			t.Errorf("R3: %x was handed in, and is %x now", was, l)
		}
	}
}

// One Key alone is below the one ahead, at each place of lists of each length, in each bit.
func TestOneFalls(t *testing.T) {
	for size := 2; size < 9; size++ {
		for at := 1; at < size; at++ {
			for bit := range 64 {
				keys := slices.Concat(same(at, 1<<bit), same(size-at, 0))
				if l := list(keys...); len(tree.Build(l)) != 0 {
					t.Fatalf("8.1: Build(%x) = %v", l, tree.Build(l))
				}
				slices.Reverse(keys)
				check(t, list(keys...))
			}
		}
	}
}

func TestBuildByHand(t *testing.T) {
	const a, b, c = 1 << 62, 2 << 62, 3 << 62
	for _, x := range []struct {
		l    []api.Keyed
		want []api.Node
	}{
		// As many as go in a leaf, wherever they are.
		{list(0, 0, 0, 0), []api.Node{leaf(0, 0, 0, 4)}},
		{list(0, a, b, c), []api.Node{leaf(0, 0, 0, 4)}},
		{list(0, most), []api.Node{leaf(0, 0, 0, 2)}},
		{list(most, most, most, most), []api.Node{leaf(0, 0, 0, 4)}},
		// One more, in two, three and four quarters.
		{list(0, a, a+1, a+2, a+3), []api.Node{branch(0, 0, 0, 5, 1, 2, -1, -1), leaf(1, 0, 0, 1), leaf(1, a, 1, 5)}},
		{list(0, 1, 2, 3, most), []api.Node{branch(0, 0, 0, 5, 1, -1, -1, 2), leaf(1, 0, 0, 4), leaf(1, c, 4, 5)}},
		{list(a-1, a, b-1, b, c-1), []api.Node{branch(0, 0, 0, 5, 1, 2, 3, -1), leaf(1, 0, 0, 1), leaf(1, a, 1, 3), leaf(1, b, 3, 5)}},
		{list(a, a, b, c, most), []api.Node{branch(0, 0, 0, 5, -1, 1, 2, 3), leaf(1, a, 0, 2), leaf(1, b, 2, 3), leaf(1, c, 3, 5)}},
		{list(0, a, b, c, most), []api.Node{branch(0, 0, 0, 5, 1, 2, 3, 4), leaf(1, 0, 0, 1), leaf(1, a, 1, 2), leaf(1, b, 2, 3), leaf(1, c, 3, 5)}},
		// In one: its kid has them all.
		{list(b, b, b+1<<60, b+2<<60, b+3<<60), []api.Node{
			branch(0, 0, 0, 5, -1, -1, 1, -1), branch(1, b, 0, 5, 2, 3, 4, 5),
			leaf(2, b, 0, 2), leaf(2, b+1<<60, 2, 3), leaf(2, b+2<<60, 3, 4), leaf(2, b+3<<60, 4, 5),
		}},
		// All below the first kid comes ahead of the next one.
		{list(1, 1<<58, 2<<58, 3<<58, 1<<60, a, a, b, b+5<<58, b+6<<58, b+7<<58, c-1, c), []api.Node{
			branch(0, 0, 0, 13, 1, 4, 5, 9),
			branch(1, 0, 0, 5, 2, 3, -1, -1), leaf(2, 0, 0, 4), leaf(2, 1<<60, 4, 5),
			leaf(1, a, 5, 7),
			branch(1, b, 7, 12, 6, 7, -1, 8), leaf(2, b, 7, 8), leaf(2, b+1<<60, 8, 11), leaf(2, b+3<<60, 11, 12),
			leaf(1, c, 12, 13),
		}},
	} {
		if got := tree.Build(x.l); !slices.Equal(got, x.want) {
			t.Errorf("8.1: Build(%x) = %v, not %v", x.l, got, x.want)
		}
		check(t, x.l)
	}
}

// One more than go in a leaf, all of one Key: the nodes go down to the last level, and end there.
func TestOneKey(t *testing.T) {
	keys := []uint64{0, 1, 2, 3, 4, 9, 1 << 62, 2 << 62, 3 << 62, 1<<63 - 1, 1 << 63, 0x0123456789abcdef, 0xfedcba9876543210, 0x1b1b1b1b1b1b1b1b, most - 1, most}
	for _, key := range keys {
		for many := 1; many < 9; many++ {
			nodes := check(t, list(same(many, key)...))
			if many <= 4 && len(nodes) != 1 || many > 4 && len(nodes) != 33 {
				t.Fatalf("8.1: of %d times %x there are %d nodes", many, key, len(nodes))
			}
		}
		nodes := tree.Build(list(same(5, key)...))
		for level, node := range nodes {
			want := leaf(level, key>>(64-2*level)<<(64-2*level), 0, 5)
			if level < 32 {
				want.Kids[key>>(62-2*level)&3] = level + 1
			}
			if node != want {
				t.Errorf("8.1: of five times %x level %d is %v, not %v", key, level, node, want)
			}
		}
	}
}

// Keys that part at the last level alone, and those that part at the first one alone.
func TestLastAndFirstLevel(t *testing.T) {
	for _, high := range []uint64{0, 4, most &^ 3, 0x0123456789abcdec} {
		nodes := check(t, list(high, high, high+1, high+2, high+3, high+3))
		last := []api.Node{branch(31, high, 0, 6, 32, 33, 34, 35), leaf(32, high, 0, 2), leaf(32, high+1, 2, 3), leaf(32, high+2, 3, 4), leaf(32, high+3, 4, 6)}
		if len(nodes) != 36 || !slices.Equal(nodes[31:], last) {
			t.Errorf("8.1: those that part at the last level, with %x, end with %v", high, shown(nodes))
		}
	}
	for _, low := range []uint64{0, 1, 1<<62 - 1, 0x0123456789abcdec} {
		var l []uint64
		for q := range uint64(4) {
			l = append(l, same(5, q<<62+low)...)
		}
		nodes := check(t, list(l...))
		if len(nodes) != 1+4*32 || nodes[0] != branch(0, 0, 0, 20, 1, 33, 65, 97) {
			t.Errorf("8.1: those that part at the first level, with %x, are %v", low, shown(nodes))
		}
	}
}

// At each level, bodies in each choice of the quarters, as many as go in a leaf and one more, and more.
func TestEachLevel(t *testing.T) {
	for level := range 32 {
		for _, high := range []uint64{0, most, 0x1b27c6d8e4936cb1} {
			for choice := 1; choice < 16; choice++ {
				for _, n := range []int{1, 2, 4, 5, 6} {
					var many [4]int
					for q := range many {
						many[q] = n * (choice >> q & 1)
					}
					check(t, quartered(level, many, high))
				}
			}
		}
	}
}

// Each number of bodies, from none to one more than go in a leaf, in each of the quarters.
func TestEachShare(t *testing.T) {
	for share := range 6 * 6 * 6 * 6 {
		many := [4]int{share % 6, share / 6 % 6, share / 36 % 6, share / 216}
		for _, level := range []int{0, 30, 31} {
			check(t, quartered(level, many, 0x6c1be4279d3850fa))
		}
	}
}

// The least and the greatest Key, and those that are next to the edges of quarters.
func TestEdges(t *testing.T) {
	keys := []uint64{0, 1, 1<<62 - 1, 1 << 62, 1<<63 - 1, 1 << 63, 3<<62 - 1, 3 << 62, most - 1, most}
	check(t, list(keys...))
	for i := range keys {
		check(t, rising(append(same(4, keys[i]), keys...)...))
		for j := range keys {
			check(t, rising(append(same(3, keys[i]), same(2, keys[j])...)...))
			check(t, rising(append(same(6, keys[i]), same(5, keys[j])...)...))
		}
	}
	for bit := range 64 {
		key := uint64(1) << bit
		check(t, rising(0, 0, key-1, key, key, key+1, most))
		check(t, rising(most, most, most-key, most-key, most^key-1, 0))
	}
}

// The numbers of bodies have no say, whatever they are.
func TestIdsHaveNoSay(t *testing.T) {
	l := list(0, 0, 1, 1, 2, 1<<62, 1<<62, 3<<62)
	want := tree.Build(l)
	for _, ids := range [][]int{{0, 0, 0, 0, 0, 0, 0, 0}, {-1, -2, -3, -4, -5, -6, -7, -8}, {math.MinInt, math.MaxInt, 3, 1 << 40, 0, -9, 8, 7}} {
		for i := range l {
			l[i].Id = ids[i]
		}
		if got := check(t, l); !slices.Equal(got, want) {
			t.Errorf("8.1: Build(%x) = %v, not %v", l, got, want)
		}
	}
}

func TestAny(t *testing.T) {
	var w words = 1
	for round := range 3000 {
		check(t, rising(w.keys(round%120)...))
	}
	for range 20 {
		check(t, rising(w.keys(3000)...))
	}
}

// Each kind of list with two bodies exchanged: nothing, but where they have one Key.
func TestAnyExchanged(t *testing.T) {
	var w words = 2
	for range 2000 {
		l := rising(w.keys(2 + int(w.word()%30))...)
		i, j := w.word()%uint64(len(l)), w.word()%uint64(len(l))
		fall := l[i].Key != l[j].Key
		l[i], l[j] = l[j], l[i]
		if fall {
			if got := tree.Build(l); len(got) != 0 {
				t.Fatalf("8.1: Build(%x) = %v", l, got)
			}
			continue
		}
		check(t, l)
	}
}

func TestMany(t *testing.T) {
	var w words = 3
	keys := make([]uint64, 50000)
	for i := range keys {
		keys[i] = w.word()
	}
	check(t, rising(keys...))
	check(t, list(same(50000, 0x0123456789abcdef)...))
	for i := range keys {
		keys[i] = uint64(i)
	}
	check(t, list(keys...))
}
