package unite_test

import (
	"math"
	"testing"

	"crosstree/unite"
)

// P14.1: which numbers there are, and which are in one group.

const most = 100000

// wantGroups holds all that groups tell of themselves against the least number of each number's group.
func wantGroups(t *testing.T, g *unite.Groups, least ...int) {
	t.Helper()
	if n := g.Len(); n != len(least) {
		t.Errorf("Len is %d, not %d", n, len(least))
	}
	sizes := map[int]int{}
	for _, l := range least {
		sizes[l]++
	}
	if n := g.Count(); n != len(sizes) {
		t.Errorf("Count of %v is %d", least, n)
	}
	for i, l := range least {
		if n := g.Find(i); n != l {
			t.Errorf("Find of %d of %v is %d", i, least, n)
		}
		if n := g.Size(i); n != sizes[l] {
			t.Errorf("Size of %d of %v is %d", i, least, n)
		}
	}
	wantNone(t, g, -1, len(least))
}

// wantNone holds that each of some is not one of the numbers.
func wantNone(t *testing.T, g *unite.Groups, some ...int) {
	t.Helper()
	for _, i := range some {
		if f, s := g.Find(i), g.Size(i); f != -1 || s != 0 {
			t.Errorf("Find and Size of %d of %d are %d and %d", i, g.Len(), f, s)
		}
	}
}

func wantJoin(t *testing.T, g *unite.Groups, a, b int, want bool) {
	t.Helper()
	if g.Join(a, b) != want {
		t.Errorf("Join of %d and %d is %t", a, b, !want)
	}
}

func TestExample(t *testing.T) {
	g := unite.New(4)
	wantJoin(t, g, 3, 1, true)
	wantJoin(t, g, 1, 3, false)
	if g.Find(3) != 1 || g.Count() != 3 {
		t.Errorf("Find is %d, Count %d", g.Find(3), g.Count())
	}
}

func TestNew(t *testing.T) {
	wantGroups(t, unite.New(0))
	wantGroups(t, unite.New(1), 0)
	wantGroups(t, unite.New(5), 0, 1, 2, 3, 4)
	for _, n := range []int{-1, -2, -most, math.MinInt32, -1 << 32, math.MinInt + 1, math.MinInt} {
		wantGroups(t, unite.New(n))
	}
	for _, n := range []int{most - 1, most, most + 1, most + 2, 1 << 20, math.MaxInt32, 1 << 32, math.MaxInt - 1, math.MaxInt} {
		g, want := unite.New(n), min(n, most)
		if g.Len() != want || g.Count() != want || g.Find(want-1) != want-1 || g.Size(want-1) != 1 {
			t.Errorf("New of %d has %d numbers", n, g.Len())
		}
		wantNone(t, g, want, want+1)
	}
}

func TestJoin(t *testing.T) {
	g := unite.New(8)
	wantJoin(t, g, 5, 6, true)
	wantGroups(t, g, 0, 1, 2, 3, 4, 5, 5, 7)
	wantJoin(t, g, 6, 5, false)
	wantJoin(t, g, 6, 6, false)
	wantGroups(t, g, 0, 1, 2, 3, 4, 5, 5, 7)
	wantJoin(t, g, 7, 6, true)
	wantGroups(t, g, 0, 1, 2, 3, 4, 5, 5, 5)
	wantJoin(t, g, 2, 0, true)
	wantGroups(t, g, 0, 1, 0, 3, 4, 5, 5, 5)
	wantJoin(t, g, 7, 4, true)
	wantGroups(t, g, 0, 1, 0, 3, 4, 4, 4, 4)
	wantJoin(t, g, 2, 6, true)
	wantGroups(t, g, 0, 1, 0, 3, 0, 0, 0, 0)
	wantJoin(t, g, 0, 7, false)
	wantJoin(t, g, 3, 1, true)
	wantJoin(t, g, 7, 3, true)
	wantGroups(t, g, 0, 0, 0, 0, 0, 0, 0, 0)
	for a := range 8 {
		for b := range 8 {
			wantJoin(t, g, a, b, false)
		}
	}
	wantGroups(t, g, 0, 0, 0, 0, 0, 0, 0, 0)
}

// A number is joined with none that isn't there, whichever of the two it is.
func TestJoinOfNoNumber(t *testing.T) {
	g := unite.New(4)
	wantJoin(t, g, 0, 2, true)
	beyond := []int{math.MinInt, math.MinInt + 1, -1 << 32, -4, -1, 4, 5, most, 1 << 32, 1<<32 + 1, math.MaxInt - 1, math.MaxInt}
	for _, n := range beyond {
		for i := range 4 {
			wantJoin(t, g, i, n, false)
			wantJoin(t, g, n, i, false)
		}
		for _, m := range beyond {
			wantJoin(t, g, n, m, false)
		}
	}
	wantNone(t, g, beyond...)
	wantGroups(t, g, 0, 1, 0, 3)
}

// A group is as great as it may be, in whichever order its numbers come to it.
func TestGreatestGroups(t *testing.T) {
	orders := map[string]func(i int) (int, int){
		"up":    func(i int) (int, int) { return i, i + 1 },
		"down":  func(i int) (int, int) { return most - 1 - i, most - 2 - i },
		"back":  func(i int) (int, int) { return i + 1, i },
		"first": func(i int) (int, int) { return 0, i + 1 },
		"last":  func(i int) (int, int) { return i, most - 1 },
	}
	for name, order := range orders {
		g := unite.New(most)
		for i := range most - 1 {
			a, b := order(i)
			wantJoin(t, g, a, b, true)
			if n := g.Count(); n != most-1-i {
				t.Fatalf("%s: Count is %d after %d joins", name, n, i+1)
			}
		}
		for i := range most {
			if g.Find(i) != 0 || g.Size(i) != most {
				t.Fatalf("%s: Find and Size of %d are %d and %d", name, i, g.Find(i), g.Size(i))
			}
		}
	}
}

// Groups of 1, 2, 4 .. numbers are joined in pairs: the deepest trees.
func TestPairs(t *testing.T) {
	g := unite.New(most)
	for size := 1; size < most; size *= 2 {
		for i := 0; i+size < most; i += 2 * size {
			wantJoin(t, g, i+size, i, true)
		}
		for _, i := range []int{0, size - 1, size, most / 2, most - 1} {
			least := i / (2 * size) * (2 * size)
			if n := g.Find(i); n != least {
				t.Errorf("Find of %d is %d, not %d", i, n, least)
			}
			if n := g.Size(i); n != min(2*size, most-least) {
				t.Errorf("Size of %d is %d", i, n)
			}
		}
	}
	if g.Count() != 1 {
		t.Errorf("Count is %d", g.Count())
	}
}

func TestNilGroups(t *testing.T) {
	var none *unite.Groups
	wantGroups(t, none)
	wantNone(t, none, math.MinInt, -2, 0, 1, 2, math.MaxInt)
	wantJoin(t, none, 0, 0, false)
	wantJoin(t, none, 0, 1, false)
	wantJoin(t, none, -1, -1, false)
}

// Groups that New didn't return have no number.
func TestZeroGroups(t *testing.T) {
	var g unite.Groups
	wantJoin(t, &g, 0, 1, false)
	wantJoin(t, &g, 0, 0, false)
	wantGroups(t, &g)
}
