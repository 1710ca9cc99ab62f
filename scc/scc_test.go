package scc_test

import (
	"math"
	"slices"
	"testing"

	"crosstree/api"
	"crosstree/scc"
)

// P15.1, by hand: components, their order, and what is reached.

const most = 20000

// edge is one whose Pc says nothing about the graph.
func edge(from, to int) api.Edge {
	return api.Edge{From: from, Pc: 7*from - to, To: to}
}

// graphOf makes the edges of pairs of nodes.
func graphOf(pairs ...[2]int) []api.Edge {
	var edges []api.Edge
	for _, p := range pairs {
		edges = append(edges, edge(p[0], p[1]))
	}
	return edges
}

// chain is the edges along some nodes.
func chain(nodes ...int) []api.Edge {
	var edges []api.Edge
	for i := range len(nodes) - 1 {
		edges = append(edges, edge(nodes[i], nodes[i+1]))
	}
	return edges
}

// upTo is the numbers below n.
func upTo(n int) []int {
	l := make([]int, n)
	for i := range l {
		l[i] = i
	}
	return l
}

func short(l []int) []int { return l[:min(len(l), 20)] }

func wantGroups(t *testing.T, n int, edges []api.Edge, want ...int) {
	t.Helper()
	if l := scc.Groups(n, edges); !slices.Equal(l, want) {
		t.Errorf("Groups of %d, %v is %v, not %v", n, edges[:min(len(edges), 40)], short(l), short(want))
	}
}

func wantOrder(t *testing.T, n int, edges []api.Edge, want ...int) {
	t.Helper()
	if l := scc.Order(n, edges); !slices.Equal(l, want) {
		t.Errorf("Order of %d, %v is %v, not %v", n, edges[:min(len(edges), 40)], short(l), short(want))
	}
}

func wantReach(t *testing.T, n int, edges []api.Edge, from []int, want ...int) {
	t.Helper()
	if l := scc.Reach(n, edges, from); !slices.Equal(l, want) {
		t.Errorf("Reach of %d, %v from %v is %v, not %v", n, edges[:min(len(edges), 40)], short(from), short(l), short(want))
	}
}

func TestExample(t *testing.T) {
	edges := graphOf([2]int{0, 1}, [2]int{1, 2}, [2]int{2, 1}, [2]int{3, 0})
	wantGroups(t, 4, edges, 0, 1, 1, 3)
	wantOrder(t, 4, edges, 3, 0, 1)
	wantReach(t, 4, edges, []int{1}, 1, 2)
}

func TestWithoutEdges(t *testing.T) {
	for _, n := range []int{0, 1, 2, 5} {
		for _, edges := range [][]api.Edge{nil, {}} {
			wantGroups(t, n, edges, upTo(n)...)
			wantOrder(t, n, edges, upTo(n)...)
			wantReach(t, n, edges, upTo(n), upTo(n)...)
			wantReach(t, n, edges, nil)
			wantReach(t, n, edges, []int{})
		}
	}
	wantReach(t, 5, nil, []int{3}, 3)
	wantReach(t, 5, nil, []int{4, 1, 4}, 1, 4)
}

func TestGroups(t *testing.T) {
	wantGroups(t, 3, chain(0, 0), 0, 1, 2)
	wantGroups(t, 3, chain(2, 1, 0), 0, 1, 2)
	wantGroups(t, 3, chain(0, 1, 2), 0, 1, 2)
	wantGroups(t, 3, chain(2, 1, 2), 0, 1, 1)
	wantGroups(t, 3, chain(0, 2, 1, 0), 0, 0, 0)
	wantGroups(t, 3, chain(0, 1, 2, 0), 0, 0, 0)
	wantGroups(t, 4, chain(3, 0, 2, 3), 0, 1, 0, 0)
	// A ring behind a ring, and two rings that share a node.
	wantGroups(t, 6, slices.Concat(chain(5, 3, 5), chain(4, 1, 4), chain(3, 1)), 0, 1, 2, 3, 1, 3)
	wantGroups(t, 6, slices.Concat(chain(5, 3, 5), chain(4, 3, 4)), 0, 1, 2, 3, 3, 3)
	// Two ways to one node are no ring.
	wantGroups(t, 4, slices.Concat(chain(0, 1, 3), chain(0, 2, 3)), 0, 1, 2, 3)
	wantGroups(t, 4, slices.Concat(chain(3, 1, 0), chain(3, 2, 0)), 0, 1, 2, 3)
	wantGroups(t, 4, slices.Concat(chain(0, 1, 3), chain(0, 2, 3, 2)), 0, 1, 2, 2)
}

func TestOrder(t *testing.T) {
	wantOrder(t, 3, chain(0, 0), 0, 1, 2)
	wantOrder(t, 3, chain(2, 1, 0), 2, 1, 0)
	wantOrder(t, 3, chain(0, 1, 2), 0, 1, 2)
	wantOrder(t, 3, chain(0, 2, 1, 0), 0)
	wantOrder(t, 3, chain(2, 1, 2), 0, 1)
	// The least that could come next isn't always the least that could come later.
	wantOrder(t, 4, chain(3, 0), 1, 2, 3, 0)
	wantOrder(t, 5, chain(2, 0), 1, 2, 0, 3, 4)
	wantOrder(t, 5, slices.Concat(chain(1, 4), chain(3, 0)), 1, 2, 3, 0, 4)
	wantOrder(t, 6, slices.Concat(chain(5, 0, 4), chain(3, 1)), 2, 3, 1, 5, 0, 4)
	// A component comes when all that reach it have come, by its least node.
	wantOrder(t, 5, slices.Concat(chain(4, 0, 4), chain(3, 4)), 1, 2, 3, 0)
	wantOrder(t, 5, slices.Concat(chain(4, 1, 4), chain(2, 3)), 0, 1, 2, 3)
	wantOrder(t, 4, slices.Concat(chain(1, 0), chain(3, 0), chain(2, 3)), 1, 2, 3, 0)
	wantOrder(t, 4, slices.Concat(chain(3, 1, 0), chain(3, 2, 0)), 3, 1, 2, 0)
}

func TestReach(t *testing.T) {
	edges := slices.Concat(chain(5, 3, 1), chain(3, 4, 3), chain(0, 2))
	wantReach(t, 6, edges, []int{5}, 1, 3, 4, 5)
	wantReach(t, 6, edges, []int{4}, 1, 3, 4)
	wantReach(t, 6, edges, []int{1}, 1)
	wantReach(t, 6, edges, []int{2}, 2)
	wantReach(t, 6, edges, []int{0, 1}, 0, 1, 2)
	wantReach(t, 6, edges, []int{2, 1, 0, 2, 1}, 0, 1, 2)
	wantReach(t, 6, edges, []int{5, 0}, 0, 1, 2, 3, 4, 5)
	wantReach(t, 6, edges, nil)
}

// An edge may be there several times, and its Pc says nothing.
func TestRepeatedEdges(t *testing.T) {
	pcs := []int{0, 0, 1, -1, math.MinInt, math.MaxInt}
	var edges []api.Edge
	for _, pc := range pcs {
		for _, e := range slices.Concat(chain(3, 0), chain(1, 2, 1), chain(2, 0), chain(0, 0)) {
			edges = append(edges, api.Edge{From: e.From, Pc: pc, To: e.To})
		}
	}
	wantGroups(t, 4, edges, 0, 1, 1, 3)
	wantOrder(t, 4, edges, 1, 3, 0)
	wantReach(t, 4, edges, []int{3}, 0, 3)
	wantReach(t, 4, edges, []int{2}, 0, 1, 2)
}

// Edges with an end that is not a node say nothing, and neither do such numbers in from.
func TestNotNodes(t *testing.T) {
	wrong := []int{math.MinInt, -1 << 32, -most, -2, -1, 4, 5, most - 1, most, most + 1, 1 << 32, 1<<32 + 1, math.MaxInt}
	good := slices.Concat(chain(0, 3), chain(2, 1, 2))
	edges := slices.Clone(good)
	for _, a := range wrong {
		for _, b := range slices.Concat(wrong, upTo(4)) {
			edges = append(edges, edge(a, b), edge(b, a))
		}
	}
	for _, l := range [][]api.Edge{slices.Concat(edges, good), slices.Concat(good, edges), edges[len(good):]} {
		want, order := []int{0, 1, 1, 3}, []int{0, 1, 3}
		if len(l) == len(edges)-len(good) {
			want, order = upTo(4), upTo(4)
		}
		wantGroups(t, 4, l, want...)
		wantOrder(t, 4, l, order...)
	}
	wantReach(t, 4, edges, wrong)
	wantReach(t, 4, edges, slices.Concat(wrong, []int{0}, wrong), 0, 3)
	wantReach(t, 4, edges, []int{2}, 1, 2)
	// A path through what is not a node is no path.
	wantReach(t, 4, chain(0, 4, 1), []int{0}, 0)
	wantReach(t, 4, chain(0, -1, 1), []int{0}, 0)
	wantReach(t, 5, chain(0, 4, 1), []int{0}, 0, 1, 4)
	wantGroups(t, 4, chain(1, 4, 0, 1), 0, 1, 2, 3)
	wantOrder(t, 4, chain(3, 4, 0), 0, 1, 2, 3)
}

func TestFewestNodes(t *testing.T) {
	edges := slices.Concat(chain(0, 0), chain(1, 0, 1), chain(-1, -1, 0))
	for _, n := range []int{0, -1, -2, -most, math.MinInt32, -1 << 32, math.MinInt} {
		wantGroups(t, n, edges)
		wantOrder(t, n, edges)
		wantReach(t, n, edges, []int{-1, 0, 1})
	}
	wantGroups(t, 1, edges, 0)
	wantOrder(t, 1, edges, 0)
	wantReach(t, 1, edges, []int{-1, 0, 1}, 0)
}

func TestMostNodes(t *testing.T) {
	edges := slices.Concat(chain(most-1, most-2, most-1, most-3), chain(most, 5, most), chain(0, most, 1))
	for _, n := range []int{most, most + 1, most + 2, 1 << 20, math.MaxInt32, 1 << 32, math.MaxInt} {
		want := upTo(most)
		want[most-1] = most - 2
		wantGroups(t, n, edges, want...)
		order := upTo(most - 1)
		order[most-3], order[most-2] = most-2, most-3
		wantOrder(t, n, edges, order...)
		wantReach(t, n, edges, []int{most - 1}, most-3, most-2, most-1)
		wantReach(t, n, edges, []int{0, most, most + 1}, 0)
	}
	wantGroups(t, most-1, edges, upTo(most-1)...)
	wantOrder(t, most-1, edges, upTo(most-1)...)
	wantReach(t, most-1, edges, []int{most - 1, most - 2, 4}, 4, most-2)
}
