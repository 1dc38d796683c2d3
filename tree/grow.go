package tree

import "perigee/api"

const (
	quarters = 4
	none     = -1
	topPlace = 62 // of the two bits of a Key that tell the world's quarter
)

// grown tells nodes, and behind them node with all below it. As l is Rising,
// the bodies of each quarter lie side by side, in the order of the quarters.
func grown(nodes []api.Node, l []api.Keyed, node api.Node) []api.Node {
	at := len(nodes)
	node.Kids = [quarters]int{none, none, none, none}
	nodes = append(nodes, node)
	if isLeaf(node) {
		return nodes
	}
	place, from := topPlace-2*node.Level, node.From
	for q, many := range counts(l[node.From:node.To], place) {
		if many == 0 {
			continue
		}
		kid := api.Node{Level: node.Level + 1, Key: node.Key | uint64(q)<<place, From: from, To: from + many}
		nodes[at].Kids[q] = len(nodes)
		nodes = grown(nodes, l, kid)
		from = kid.To
	}
	return nodes
}

func isLeaf(node api.Node) bool {
	return node.To-node.From <= api.Bucket || node.Level >= api.MaxLevel
}

// counts tells how many of l are in each quarter, which the two bits of their
// Keys at place tell.
func counts(l []api.Keyed, place int) [quarters]int {
	var many [quarters]int
	for _, k := range l {
		many[k.Key>>place%quarters]++
	}
	return many
}
