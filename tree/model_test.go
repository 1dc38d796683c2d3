package tree_test

import (
	"maps"
	"slices"
	"strconv"
	"strings"
	"testing"

	"perigee/api"
	"perigee/tree"
)

// leaf is a node without kids.
func leaf(level int, key uint64, from, to int) api.Node {
	return branch(level, key, from, to, -1, -1, -1, -1)
}

// branch is a node with these kids.
func branch(level int, key uint64, from, to int, kids ...int) api.Node {
	return api.Node{Level: level, Key: key, From: from, To: to, Kids: [4]int(kids)}
}

// quartersOf is key as text: the quarter of each level, the world's first.
func quartersOf(key uint64) string {
	text := strconv.FormatUint(key, 4)
	return strings.Repeat("0", 32-len(text)) + text
}

// keyOf is the least key whose text begins so.
func keyOf(text string) uint64 {
	key, err := strconv.ParseUint(text+strings.Repeat("0", 32-len(text)), 4, 64)
	if err != nil {
		panic(err)
	}
	return key
}

// nodesOf is what Build must tell of a list that rises. Each node is told by the beginning that the texts of its bodies'
// keys share; there is one where the beginning shorter by one is that of more bodies than go in a leaf. A node comes ahead
// of all whose beginnings go on from its own, which come in the order of their texts: this is the order of texts.
func nodesOf(l []api.Keyed) []api.Node {
	if len(l) == 0 {
		return nil
	}
	bodies := map[string]int{}
	for _, k := range l {
		text := quartersOf(k.Key)
		for level := range 33 {
			bodies[text[:level]]++
		}
	}
	maps.DeleteFunc(bodies, func(text string, _ int) bool { return text != "" && bodies[text[:len(text)-1]] <= 4 })
	order := slices.Sorted(maps.Keys(bodies))
	number := map[string]int{}
	for i, text := range order {
		number[text] = i
	}
	var nodes []api.Node
	for _, text := range order {
		from, _ := slices.BinarySearchFunc(l, keyOf(text), func(k api.Keyed, key uint64) int {
			if k.Key < key {
				return -1
			}
			return 1
		})
		node := leaf(len(text), keyOf(text), from, from+bodies[text])
		for q := range 4 {
			if kid, ok := number[text+strconv.Itoa(q)]; ok {
				node.Kids[q] = kid
			}
		}
		nodes = append(nodes, node)
	}
	return nodes
}

// The model is held by hand, too: what it says of the document's words is written out here.
func TestModel(t *testing.T) {
	const a, b, c = 1 << 62, 2 << 62, 3 << 62
	for _, x := range []struct {
		l    []api.Keyed
		want []api.Node
	}{
		{list(), nil},
		{list(9), []api.Node{leaf(0, 0, 0, 1)}},
		{list(0, 0, a, c, c+1), []api.Node{branch(0, 0, 0, 5, 1, 2, -1, 3), leaf(1, 0, 0, 2), leaf(1, a, 2, 3), leaf(1, c, 3, 5)}},
		{list(b, b, b, b, b+1<<61, c), []api.Node{branch(0, 0, 0, 6, -1, -1, 1, 4), branch(1, b, 0, 5, 2, -1, 3, -1), leaf(2, b, 0, 4), leaf(2, b+1<<61, 4, 5), leaf(1, c, 5, 6)}},
	} {
		if got := nodesOf(x.l); !slices.Equal(got, x.want) {
			t.Errorf("the model of %x is %v, not %v", x.l, got, x.want)
		}
	}
}

// shown is as much of l as a message can hold.
func shown[T any](l []T) []T { return l[:min(len(l), 40)] }

// check asks for the nodes of l, which rises, twice, and whether they are as the document says.
func check(t *testing.T, l []api.Keyed) []api.Node {
	t.Helper()
	was, want := slices.Clone(l), nodesOf(l)
	var got []api.Node
	for range 2 {
		got = tree.Build(l)
		if !slices.Equal(got, want) {
			t.Fatalf("8.1: Build(%x) = %v, not %v", shown(was), shown(got), shown(want))
		}
		if !slices.Equal(l, was) {
			t.Fatalf("R3: %x was handed in, and is %x now", shown(was), shown(l))
		}
	}
	checkNodes(t, l, got)
	checkLeaves(t, l, got)
	return got
}

// checkNodes holds the nodes against each sentence of 8.1, without the model.
func checkNodes(t *testing.T, l []api.Keyed, nodes []api.Node) {
	t.Helper()
	if len(l) == 0 {
		return
	}
	first := nodes[0]
	if first.Level != 0 || first.Key != 0 || first.From != 0 || first.To != len(l) {
		t.Fatalf("8.1: the first of %d bodies is %v", len(l), first)
	}
	if behind := follow(t, l, nodes, 0); behind != len(nodes) {
		t.Fatalf("8.1: %d of the %d nodes are below the first", behind, len(nodes))
	}
}

// follow tells the number behind node at and all below it, having held each of them against its kids.
func follow(t *testing.T, l []api.Keyed, nodes []api.Node, at int) int {
	t.Helper()
	node, next, from := nodes[at], at+1, nodes[at].From
	if node.To-node.From <= 4 || node.Level == 32 {
		if node.Kids != [4]int{-1, -1, -1, -1} {
			t.Fatalf("8.1: a node without kids is %v", node)
		}
		return next
	}
	place := 62 - 2*node.Level
	for q, k := range node.Kids {
		if k == -1 {
			continue
		}
		if k != next {
			t.Fatalf("8.1: node %d has kid %d, not %d, in quarter %d", at, k, next, q)
		}
		kid := nodes[k]
		if kid.Level != node.Level+1 || kid.From != from || kid.To <= kid.From || kid.To > node.To || kid.Key != l[kid.From].Key>>place<<place {
			t.Fatalf("8.1: node %v has kid %v", node, kid)
		}
		for _, b := range l[kid.From:kid.To] {
			if int(b.Key>>place&3) != q || b.Key>>place<<place != kid.Key {
				t.Fatalf("8.1: body %x is in %v, quarter %d of %v", b, kid, q, node)
			}
		}
		from, next = kid.To, follow(t, l, nodes, k)
	}
	if from != node.To {
		t.Fatalf("8.1: of node %v the bodies from %d on are of no kid", node, from)
	}
	return next
}

// checkLeaves counts of how many leaves each body is.
func checkLeaves(t *testing.T, l []api.Keyed, nodes []api.Node) {
	t.Helper()
	of := make([]int, len(l))
	for _, node := range nodes {
		if node.Kids != [4]int{-1, -1, -1, -1} {
			continue
		}
		for i := node.From; i < node.To; i++ {
			of[i]++
		}
	}
	for i, many := range of {
		if many != 1 {
			t.Fatalf("8.2: body %d of %x is of %d leaves", i, shown(l), many)
		}
	}
}
