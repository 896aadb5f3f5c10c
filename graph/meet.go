package graph

import (
	"slices"

	"tilth/api"
)

// met: the nodes that handles come to, in the order in which they are met, and their numbers.
func (g *Graph) met() ([]*node, map[*node]int) {
	var order []*node
	number := map[*node]int{nil: 0} // none is known ahead, so that it is not met
	meet := func(list []*node) {
		for _, x := range list {
			if _, known := number[x]; !known {
				order = append(order, x)
				number[x] = len(order)
			}
		}
	}
	meet(g.held)
	for i := 0; i < len(order); i++ { // order grows as it is gone through
		meet(order[i].ptrs)
	}
	return order, number
}

// Nodes: all that handles come to, in one order, and which ones handles hold.
func (g *Graph) Nodes() ([]api.Node, []int) {
	if g == nil {
		return nil, nil
	}
	order, number := g.met()
	var nodes []api.Node
	for _, x := range order {
		nodes = append(nodes, api.Node{Ptrs: numbers(x.ptrs, number), Scalars: slices.Clone(x.scalars)})
	}
	return nodes, numbers(g.held, number)
}

// numbers: those of nodes.
func numbers(list []*node, number map[*node]int) []int {
	var all []int
	for _, x := range list {
		all = append(all, number[x])
	}
	return all
}

// Words: how many words they have in all.
func (g *Graph) Words() int {
	if g == nil {
		return 0
	}
	words := 0
	order, _ := g.met()
	for _, x := range order {
		words += len(x.ptrs) + len(x.scalars) + api.Extra
	}
	return words
}
