package scc_test

import (
	"math"
	"math/rand/v2"
	"slices"
	"sync"
	"testing"

	"crosstree/api"
	"crosstree/scc"
)

// R3, R4, R5 and P1: whose memory it is, and that every call ends.

// spoil overwrites a list, and what lies behind it.
func spoil(l []int) {
	l = l[:cap(l)]
	for i := range l {
		l[i] = -7
	}
}

func TestArgumentsStay(t *testing.T) {
	m := maker{rand.New(rand.NewPCG(15, 1))}
	for range 100 {
		n := 1 + m.IntN(9)
		edges, from := m.edges(n, m.IntN(2*n)), m.nodes(n)
		keptEdges, keptFrom := slices.Clone(edges), slices.Clone(from)
		scc.Groups(n, edges)
		scc.Order(n, edges)
		reached := scc.Reach(n, edges, from)
		if !slices.Equal(edges, keptEdges) || !slices.Equal(from, keptFrom) {
			t.Errorf("%v, %v became %v, %v", keptEdges, keptFrom, edges, from)
		}
		kept := slices.Clone(reached)
		spoil(from)
		if !slices.Equal(reached, kept) {
			t.Errorf("an answer became %v with its argument", reached)
		}
	}
}

func TestAnswersAreTheCallers(t *testing.T) {
	edges := chain(0, 1, 2, 1, 3)
	from := []int{2, 3}
	for range 3 {
		wantGroups(t, 4, edges, 0, 1, 1, 3)
		wantOrder(t, 4, edges, 0, 1, 3)
		wantReach(t, 4, edges, from, 1, 2, 3)
		spoil(scc.Groups(4, edges))
		spoil(scc.Order(4, edges))
		spoil(scc.Reach(4, edges, from))
		// A call with another graph leaves nothing behind.
		wantGroups(t, 6, chain(5, 0, 5), 0, 1, 2, 3, 4, 0)
		wantOrder(t, 2, chain(1, 0), 1, 0)
		wantReach(t, 6, chain(5, 0, 5), []int{0}, 0, 5)
	}
}

// Many may ask about one graph at once.
func TestManyAtOnce(t *testing.T) {
	edges := chain(0, 1, 2, 1, 3)
	from := []int{2, 3}
	var all sync.WaitGroup
	for range 8 {
		all.Go(func() {
			for range 100 {
				wantGroups(t, 4, edges, 0, 1, 1, 3)
				wantOrder(t, 4, edges, 0, 1, 3)
				wantReach(t, 4, edges, from, 1, 2, 3)
			}
		})
	}
	all.Wait()
}

// along is the edges of a chain of all nodes, there and back.
func along() (up, down []api.Edge) {
	nodes := upTo(most)
	up = chain(nodes...)
	slices.Reverse(nodes)
	return up, chain(nodes...)
}

func TestDeepGraphs(t *testing.T) {
	up, down := along()
	all, reversed, zeros := upTo(most), upTo(most), make([]int, most)
	slices.Reverse(reversed)
	wantGroups(t, most, up, all...)
	wantOrder(t, most, up, all...)
	wantReach(t, most, up, []int{0}, all...)
	wantReach(t, most, up, []int{most - 1}, most-1)
	wantGroups(t, most, down, all...)
	wantOrder(t, most, down, reversed...)
	wantReach(t, most, down, []int{most - 1}, all...)
	for _, ring := range [][]api.Edge{append(slices.Clone(up), edge(most-1, 0)), append(slices.Clone(down), edge(0, most-1)), slices.Concat(up, down)} {
		wantGroups(t, most, ring, zeros...)
		wantOrder(t, most, ring, 0)
		wantReach(t, most, ring, []int{most / 2}, all...)
	}
}

func TestWideGraphs(t *testing.T) {
	last := most - 1
	var out, in []api.Edge
	for i := range last {
		out, in = append(out, edge(last, i)), append(in, edge(i, last))
	}
	all := upTo(most)
	wantGroups(t, most, out, all...)
	wantOrder(t, most, out, append([]int{last}, all[:last]...)...)
	wantOrder(t, most, in, all...)
	wantReach(t, most, out, []int{last}, all...)
	wantReach(t, most, in, []int{3}, 3, last)
	wantReach(t, most, in, all, all...)
	wantGroups(t, most, slices.Concat(out, in), make([]int, most)...)
	wantOrder(t, most, slices.Concat(in, out), 0)
}

// A graph of many edges takes no longer than its edges, and so does one whose edges are all the same.
func TestManyEdges(t *testing.T) {
	const n, same = 1000, 1000000
	var edges []api.Edge
	for a := range n {
		for b := range a {
			edges = append(edges, edge(a, b))
		}
	}
	reversed := upTo(n)
	slices.Reverse(reversed)
	wantGroups(t, n, edges, upTo(n)...)
	wantOrder(t, n, edges, reversed...)
	wantReach(t, n, edges, []int{n / 2}, upTo(n/2+1)...)
	edges = slices.Repeat([]api.Edge{edge(1, 0)}, same)
	wantGroups(t, 2, edges, 0, 1)
	wantOrder(t, 2, edges, 1, 0)
	wantReach(t, 2, edges, slices.Repeat([]int{1}, same), 0, 1)
}

func TestEveryCallEnds(t *testing.T) {
	ints := []int{math.MinInt, math.MinInt + 1, -most, -1, 0, 1, 2, most - 1, most, most + 1, 1 << 32, math.MaxInt - 1, math.MaxInt}
	var edges []api.Edge
	for _, a := range ints {
		for _, b := range ints {
			edges = append(edges, api.Edge{From: a, Pc: b, To: a}, api.Edge{From: a, Pc: a, To: b})
		}
	}
	for _, n := range ints {
		for _, l := range [][]api.Edge{nil, {}, edges} {
			scc.Groups(n, l)
			scc.Order(n, l)
			scc.Reach(n, l, nil)
			scc.Reach(n, l, ints)
		}
	}
}
