package unite_test

import (
	"math/rand/v2"
	"testing"

	"crosstree/unite"
)

// A second partition, which knows of each number the least of its group, and writes it anew at each join. Every function is held against it, and P14.2 for what comes out.

type second []int

func alone(n int) second {
	x := second{}
	for i := range n {
		x = append(x, i)
	}
	return x
}

func (x second) has(i int) bool { return 0 <= i && i < len(x) }

func (x second) join(a, b int) bool {
	if !x.has(a) || !x.has(b) || x[a] == x[b] {
		return false
	}
	from, to := max(x[a], x[b]), min(x[a], x[b])
	for i := range x {
		if x[i] == from {
			x[i] = to
		}
	}
	return true
}

// wantPartition holds P14.2 for groups, without the second partition: the sizes of all groups add up to the numbers.
func wantPartition(t *testing.T, g *unite.Groups) {
	t.Helper()
	members, groups := 0, 0
	for i := range g.Len() {
		least := g.Find(i)
		if least > i || g.Find(least) != least || g.Size(least) != g.Size(i) {
			t.Errorf("the group of %d begins at %d", i, least)
		}
		if least == i {
			groups++
			members += g.Size(i)
		}
	}
	if members != g.Len() || groups != g.Count() {
		t.Errorf("%d groups have %d numbers, not %d groups %d", groups, members, g.Count(), g.Len())
	}
}

// wantJoined joins in both partitions, and holds them against each other.
func wantJoined(t *testing.T, g *unite.Groups, x second, a, b int) {
	t.Helper()
	before := g.Count()
	ok := x.join(a, b)
	wantJoin(t, g, a, b, ok)
	after := before
	if ok {
		after--
	}
	if n := g.Count(); n != after {
		t.Errorf("Count became %d from %d", n, before)
	}
	wantGroups(t, g, x...)
	wantPartition(t, g)
}

// TestAllHistories makes all joins of up to four pairs of small numbers, in all orders.
func TestAllHistories(t *testing.T) {
	const numbers, joins = 4, 4
	pairs := [][2]int{}
	for a := range numbers {
		for b := range numbers + 1 {
			pairs = append(pairs, [2]int{a, b})
		}
	}
	var history func(l [][2]int)
	history = func(l [][2]int) {
		g, x := unite.New(numbers), alone(numbers)
		for _, p := range l {
			if g.Join(p[0], p[1]) != x.join(p[0], p[1]) {
				t.Errorf("the last Join of %v", l)
			}
		}
		wantGroups(t, g, x...)
		if len(l) < joins && !t.Failed() {
			for _, p := range pairs {
				history(append(l, p))
			}
		}
	}
	history(nil)
}

type maker struct{ *rand.Rand }

func TestRandomHistories(t *testing.T) {
	for k := range 400 {
		m := maker{rand.New(rand.NewPCG(14, uint64(k)))}
		n := m.IntN(1 + k/4)
		g, x := unite.New(n), alone(n)
		wantPartition(t, g)
		for range m.IntN(2*n + 3) {
			wantJoined(t, g, x, m.IntN(n+2)-1, m.IntN(n+2)-1)
		}
		if t.Failed() {
			t.Fatalf("history %d", k)
		}
	}
}

// Great groups are joined with great ones.
func TestRandomMerges(t *testing.T) {
	for k := range 60 {
		m := maker{rand.New(rand.NewPCG(141, uint64(k)))}
		n := 1 + m.IntN(300)
		g, x := unite.New(n), alone(n)
		for _, i := range m.Perm(n) {
			wantJoin(t, g, i, i/2, x.join(i, i/2))
		}
		wantGroups(t, g, x...)
		g, x = unite.New(n), alone(n)
		for range 5 * n {
			a, b := m.IntN(n), m.IntN(n)
			wantJoin(t, g, a, b, x.join(a, b))
		}
		wantGroups(t, g, x...)
		wantPartition(t, g)
	}
}

// Being in one group is symmetric and transitive (P14.2).
func TestSymmetricAndTransitive(t *testing.T) {
	for k := range 40 {
		m := maker{rand.New(rand.NewPCG(142, uint64(k)))}
		n := 1 + m.IntN(14)
		g := unite.New(n)
		for range m.IntN(n) {
			g.Join(m.IntN(n), m.IntN(n))
		}
		one := func(a, b int) bool { return g.Find(a) == g.Find(b) }
		for a := range n {
			for b := range n {
				if joined := one(a, b); joined != one(b, a) || a == b && !joined {
					t.Errorf("%d and %d", a, b)
				}
				for c := range n {
					if one(a, b) && one(b, c) && !one(a, c) {
						t.Errorf("%d, %d and %d", a, b, c)
					}
				}
			}
		}
	}
}
