package scc

import (
	"slices"

	"crosstree/api"
)

const maxNodes = 20000

// A graph has, for each node, the nodes to which its edges lead, one as often as edges lead there.
type graph [][]int

// newGraph leaves out the edges with an end that is not a node.
func newGraph(n int, edges []api.Edge) graph {
	g := make(graph, min(max(n, 0), maxNodes))
	for _, e := range edges {
		if g.has(e.From) && g.has(e.To) {
			g[e.From] = append(g[e.From], e.To)
		}
	}
	return g
}

// has tells whether i is a node.
func (g graph) has(i int) bool {
	return i >= 0 && i < len(g)
}

// reversed returns the graph with all edges turned round.
func (g graph) reversed() graph {
	r := make(graph, len(g))
	for i, l := range g {
		for _, j := range l {
			r[j] = append(r[j], i)
		}
	}
	return r
}

// visitor returns a function that visits what a node reaches, but for the nodes that it has visited already, in any of
// its calls, and appends each to a list of nodes when it is left.
func (g graph) visitor() func(i int, left []int) []int {
	visited := make([]bool, len(g))
	var visit func(i int, left []int) []int
	visit = func(i int, left []int) []int {
		if visited[i] {
			return left
		}
		visited[i] = true
		for _, j := range g[i] {
			left = visit(j, left)
		}
		return append(left, i)
	}
	return visit
}

// groups returns the least node of each node's component. Of the nodes that are in no component yet, the one that was
// left last is reached by none of another component, so that those that reach it are its component.
func (g graph) groups() []int {
	visit := g.visitor()
	left := []int{}
	for i := range g {
		left = visit(i, left)
	}
	least := make([]int, len(g))
	gather := g.reversed().visitor()
	for _, i := range slices.Backward(left) {
		component := gather(i, nil)
		slices.Sort(component)
		for _, j := range component {
			least[j] = component[0]
		}
	}
	return least
}

// shrunk returns the graph of the components, which stand for their least nodes: an edge for each one between two of
// them. The other nodes have none.
func (g graph) shrunk(least []int) graph {
	s := make(graph, len(g))
	for i, l := range g {
		for _, j := range l {
			if a, b := least[i], least[j]; a != b {
				s[a] = append(s[a], b)
			}
		}
	}
	return s
}

// entries counts the edges to each node.
func (g graph) entries() []int {
	counts := make([]int, len(g))
	for _, l := range g {
		for _, j := range l {
			counts[j]++
		}
	}
	return counts
}
