package unite_test

import (
	"math"
	"sync"
	"testing"

	"crosstree/unite"
)

// R4, R5 and P1: that groups are apart, and that every call ends.

func TestGroupsAreApart(t *testing.T) {
	a, b := unite.New(4), unite.New(4)
	wantJoin(t, a, 0, 3, true)
	wantGroups(t, b, 0, 1, 2, 3)
	wantJoin(t, b, 2, 3, true)
	wantGroups(t, a, 0, 1, 2, 0)
	wantGroups(t, b, 0, 1, 2, 2)
	wantGroups(t, unite.New(4), 0, 1, 2, 3)
}

// Many may ask groups at once, while nobody joins any.
func TestAskingChangesNothing(t *testing.T) {
	g := unite.New(64)
	least := make([]int, 64)
	for i := range 64 {
		least[i] = i % 4
		g.Join(i, i%4)
	}
	var all sync.WaitGroup
	for range 8 {
		all.Go(func() {
			for range 100 {
				wantGroups(t, g, least...)
				wantJoin(t, g, 0, 4, false)
			}
		})
	}
	all.Wait()
}

func TestEveryCallEnds(t *testing.T) {
	ints := []int{math.MinInt, math.MinInt + 1, -most, -1, 0, 1, 2, most - 1, most, most + 1, 1 << 32, math.MaxInt - 1, math.MaxInt}
	groups := []*unite.Groups{nil, {}, unite.New(3)}
	for _, n := range ints {
		groups = append(groups, unite.New(n))
	}
	for _, g := range groups {
		for _, a := range ints {
			g.Find(a)
			g.Size(a)
			for _, b := range ints {
				g.Join(a, b)
				g.Count()
				g.Len()
			}
		}
	}
}
