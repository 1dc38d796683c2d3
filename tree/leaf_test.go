package tree_test

import (
	"testing"

	"perigee/api"
	"perigee/tree"
)

// leavesOf are the leaves that are below node at, found by way of the kids alone.
func leavesOf(nodes []api.Node, at int) []api.Node {
	var leaves []api.Node
	for _, k := range nodes[at].Kids {
		if k != -1 {
			leaves = append(leaves, leavesOf(nodes, k)...)
		}
	}
	if leaves == nil {
		return nodes[at : at+1]
	}
	return leaves
}

// By way of the kids, the leaves are one behind the other, from the first body to the last, and each is small enough, or
// as deep as may be.
func checkWays(t *testing.T, l []api.Keyed) {
	t.Helper()
	nodes, from := tree.Build(l), 0
	if len(nodes) == 0 {
		t.Fatalf("8.1: Build(%x) tells nothing", shown(l))
	}
	for _, node := range leavesOf(nodes, 0) {
		if node.From != from || node.To <= from {
			t.Fatalf("8.2: of %x a leaf that is to be from %d on is %v", shown(l), from, node)
		}
		if node.To-node.From > 4 && node.Level != 32 {
			t.Fatalf("8.1: of %x a leaf is %v", shown(l), node)
		}
		from = node.To
	}
	if from != len(l) {
		t.Fatalf("8.2: of %x the bodies from %d on are of no leaf", shown(l), from)
	}
}

func TestEachBodyIsOfOneLeaf(t *testing.T) {
	for many := 1; many < 12; many++ {
		for _, key := range []uint64{0, 5, 1 << 63, most} {
			checkWays(t, list(same(many, key)...))
		}
	}
	for share := 1; share < 7*7*7*7; share++ {
		many := [4]int{share % 7, share / 7 % 7, share / 49 % 7, share / 343}
		checkWays(t, quartered(share%32, many, most))
	}
	var w words = 4
	for round := range 2000 {
		checkWays(t, rising(w.keys(1+round%200)...))
	}
}
