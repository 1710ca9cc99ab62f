package scc_test

import (
	"math/rand/v2"
	"slices"
	"testing"

	"crosstree/api"
	"crosstree/scc"
)

// A second scc, which knows of each two nodes whether one reaches the other, and reads the chapter's definitions from that. Every function is held against it, and P15.2 for what comes out.

type second [][]bool

func reaching(n int, edges []api.Edge) second {
	x := make(second, n)
	for i := range n {
		x[i] = make([]bool, n)
		x[i][i] = true
	}
	for _, e := range edges {
		if 0 <= e.From && e.From < n && 0 <= e.To && e.To < n {
			x[e.From][e.To] = true
		}
	}
	for by := range n {
		for from := range n {
			for to := range n {
				if x[from][by] && x[by][to] {
					x[from][to] = true
				}
			}
		}
	}
	return x
}

func (x second) groups() []int {
	var l []int
	for i := range x {
		l = append(l, slices.IndexFunc(upTo(len(x)), func(j int) bool { return x[i][j] && x[j][i] }))
	}
	return l
}

// order takes the least node of a component such that none that is left reaches it from another one, as often as it can.
func (x second) order() []int {
	var l []int
	least := x.groups()
	left := slices.Compact(slices.Sorted(slices.Values(least)))
	for len(left) > 0 {
		next := slices.IndexFunc(left, func(i int) bool {
			return !slices.ContainsFunc(left, func(j int) bool { return i != j && x[j][i] })
		})
		l = append(l, left[next])
		left = slices.Delete(left, next, next+1)
	}
	return l
}

func (x second) reach(from []int) []int {
	var l []int
	for to := range x {
		if slices.ContainsFunc(from, func(i int) bool { return 0 <= i && i < len(x) && x[i][to] }) {
			l = append(l, to)
		}
	}
	return l
}

// wantAll holds Groups and Order, and Reach of each node, against the second scc.
func wantAll(t *testing.T, n int, edges []api.Edge) second {
	t.Helper()
	x := reaching(n, edges)
	wantGroups(t, n, edges, x.groups()...)
	wantOrder(t, n, edges, x.order()...)
	for i := -1; i <= n; i++ {
		wantReach(t, n, edges, []int{i}, x.reach([]int{i})...)
	}
	return x
}

// wantSound holds P15.2, and what P15.1 says of the answers together, without the second scc.
func wantSound(t *testing.T, n int, edges []api.Edge) {
	t.Helper()
	least, order := scc.Groups(n, edges), scc.Order(n, edges)
	var reached [][]int
	for i := range n {
		reached = append(reached, scc.Reach(n, edges, []int{i}))
	}
	for i := range n {
		for j := range n {
			each := slices.Contains(reached[i], j) && slices.Contains(reached[j], i)
			if each != (least[i] == least[j]) {
				t.Errorf("%d and %d of %v", i, j, edges)
			}
		}
		if least[i] > i || least[least[i]] != least[i] {
			t.Errorf("the component of %d of %v begins at %d", i, edges, least[i])
		}
	}
	if !slices.Equal(slices.Sorted(slices.Values(order)), slices.Compact(slices.Sorted(slices.Values(least)))) {
		t.Errorf("Order of %v is %v, Groups %v", edges, order, least)
	}
	for k, i := range order {
		for _, j := range order[k+1:] {
			if slices.Contains(reached[j], i) {
				t.Errorf("Order of %v is %v", edges, order)
			}
		}
	}
}

// TestAllSmallGraphs takes all sets of edges between up to three nodes, and, between four, all without those of a node to itself.
func TestAllSmallGraphs(t *testing.T) {
	for n := range 5 {
		var pairs []api.Edge
		for a := range n {
			for b := range n {
				if n < 4 || a != b {
					pairs = append(pairs, edge(a, b))
				}
			}
		}
		for set := range 1 << len(pairs) {
			var edges []api.Edge
			for i, e := range pairs {
				if set>>i&1 == 1 {
					edges = append(edges, e)
				}
			}
			wantAll(t, n, edges)
			wantSound(t, n, edges)
			if t.Failed() {
				t.Fatalf("graph %d of %d", set, n)
			}
		}
	}
}

// The order of the edges, and of the nodes in from, changes nothing.
func TestOrderOfArguments(t *testing.T) {
	m := maker{rand.New(rand.NewPCG(15, 2))}
	for range 200 {
		n := 1 + m.IntN(9)
		edges, from := m.edges(n, m.IntN(2*n)), m.nodes(n)
		x := wantAll(t, n, edges)
		for range 5 {
			m.Shuffle(len(edges), func(i, j int) { edges[i], edges[j] = edges[j], edges[i] })
			m.Shuffle(len(from), func(i, j int) { from[i], from[j] = from[j], from[i] })
			wantGroups(t, n, edges, x.groups()...)
			wantOrder(t, n, edges, x.order()...)
			wantReach(t, n, edges, from, x.reach(from)...)
		}
	}
}

type maker struct{ *rand.Rand }

// edges makes some edges; a few have an end that is not a node.
func (m maker) edges(n, count int) []api.Edge {
	var l []api.Edge
	for range count {
		e := api.Edge{From: m.IntN(n), Pc: m.IntN(3), To: m.IntN(n)}
		switch m.IntN(20) {
		case 0:
			e.From = n + m.IntN(3)
		case 1:
			e.To = -1 - m.IntN(3)
		}
		l = append(l, e)
	}
	return l
}

func (m maker) nodes(n int) []int {
	var l []int
	for range m.IntN(5) {
		l = append(l, m.IntN(n+2)-1)
	}
	return l
}

func TestRandomGraphs(t *testing.T) {
	for k := range 1500 {
		m := maker{rand.New(rand.NewPCG(15, uint64(k)))}
		n := 1 + m.IntN(2+k/50)
		edges := m.edges(n, m.IntN(2*n+2))
		x := wantAll(t, n, edges)
		for range 5 {
			from := m.nodes(n)
			wantReach(t, n, edges, from, x.reach(from)...)
		}
		wantSound(t, n, edges)
		if t.Failed() {
			t.Fatalf("graph %d", k)
		}
	}
}

// Edges mostly lead one way in a hidden order, so that there are many components, which hang on each other.
func TestRandomOrders(t *testing.T) {
	for k := range 400 {
		m := maker{rand.New(rand.NewPCG(151, uint64(k)))}
		n := 2 + m.IntN(40)
		hidden := m.Perm(n)
		var edges []api.Edge
		for range m.IntN(3 * n) {
			a, b := m.IntN(n), m.IntN(n)
			if m.IntN(15) > 0 {
				a, b = min(a, b), max(a, b)
			}
			edges = append(edges, edge(hidden[a], hidden[b]))
		}
		wantAll(t, n, edges)
		wantSound(t, n, edges)
		if t.Failed() {
			t.Fatalf("graph %d", k)
		}
	}
}
