package tree_test

import (
	"math"
	"math/big"
	"testing"

	"perigee/api"
	"perigee/tree"
)

func wide(whole int64) api.Fix { return api.Fix{Hi: whole} }

func TestWidthByHand(t *testing.T) {
	for _, c := range []struct {
		level int
		want  api.Fix
	}{
		{0, wide(4294967296)}, {1, wide(2147483648)}, {2, wide(1073741824)}, {8, wide(16777216)}, {16, wide(65536)}, {24, wide(256)},
		{30, wide(4)}, {31, wide(2)}, {32, wide(1)},
		{-1, wide(4294967296)}, {-2, wide(4294967296)}, {-32, wide(4294967296)}, {-64, wide(4294967296)}, {math.MinInt, wide(4294967296)}, {math.MinInt + 1, wide(4294967296)},
		{33, wide(1)}, {34, wide(1)}, {64, wide(1)}, {65, wide(1)}, {128, wide(1)}, {math.MaxInt, wide(1)}, {math.MaxInt - 1, wide(1)},
	} {
		for range 2 {
			if got := tree.Width(c.level); got != c.want {
				t.Errorf("8.1: Width(%d) = %x, not %x", c.level, got, c.want)
			}
		}
	}
}

func TestEachWidth(t *testing.T) {
	for level := -300; level <= 300; level++ {
		cut := min(max(level, 0), 32)
		want := new(big.Int).Exp(big.NewInt(2), big.NewInt(int64(32-cut)), nil)
		if got := tree.Width(level); got != wide(want.Int64()) {
			t.Errorf("8.1: Width(%d) = %x, not %v", level, got, want)
		}
	}
}

func TestFarLevels(t *testing.T) {
	for bit := range 63 {
		for _, by := range []int{0, 1, 31, 32} {
			level := 1<<bit + by
			if level > 32 && tree.Width(level) != wide(1) {
				t.Errorf("8.1: Width(%d) = %x", level, tree.Width(level))
			}
			if tree.Width(-level) != wide(1<<32) {
				t.Errorf("8.1: Width(%d) = %x", -level, tree.Width(-level))
			}
		}
	}
}

// What a node holds is as wide as its level says: the cells of its Key's lower bits, on either axis.
func TestWidthOfNodes(t *testing.T) {
	for _, node := range tree.Build(list(same(5, 0)...)) {
		wide, lower := tree.Width(node.Level), uint(32-node.Level)
		if wide.Lo != 0 || wide.Hi != 1<<lower {
			t.Errorf("8.1: a node of level %d is %x wide", node.Level, wide)
		}
	}
}
