package nset_test

import (
	"math"
	"slices"
	"testing"

	"crosstree/nset"
)

// P13.1 and P13.2: what sets contain, and their runs.

const greatest = 1000000

func set(l ...int) *nset.Set { return nset.New(l) }

// from returns the numbers from a to b.
func from(a, b int) []int {
	var l []int
	for n := a; n <= b; n++ {
		l = append(l, n)
	}
	return l
}

// wantSet holds all that a set tells of itself against its numbers, which ascend.
func wantSet(t *testing.T, s *nset.Set, want ...int) {
	t.Helper()
	if n := s.Len(); n != len(want) { // a list of such a set might be too great
		t.Errorf("Len of %v is %d", want, n)
		return
	}
	if l := s.List(); !slices.Equal(l, want) {
		t.Errorf("List is %v, not %v", l, want)
	}
	for _, n := range want {
		if !s.Has(n) || s.Has(n+1) != slices.Contains(want, n+1) {
			t.Errorf("Has at %d of %v", n, want)
		}
	}
	if l := s.Spans(); !slices.Equal(l, runs(want)) {
		t.Errorf("Spans of %v is %v", want, l)
	}
}

// runs returns the ends of the runs in an ascending list.
func runs(l []int) []int {
	var ends []int
	for i, n := range l {
		if i == 0 || l[i-1] != n-1 {
			ends = append(ends, n)
		}
		if i == len(l)-1 || l[i+1] != n+1 {
			ends = append(ends, n)
		}
	}
	return ends
}

func wantSpans(t *testing.T, s *nset.Set, want ...int) {
	t.Helper()
	if l := s.Spans(); !slices.Equal(l, want) {
		t.Errorf("Spans is %v, not %v", l, want)
	}
}

func wantAdd(t *testing.T, s *nset.Set, n int, want bool) {
	t.Helper()
	if s.Add(n) != want {
		t.Errorf("Add of %d is %t", n, !want)
	}
}

func wantUnion(t *testing.T, s, other *nset.Set, want bool) {
	t.Helper()
	if s.Union(other) != want {
		t.Errorf("Union with %v is %t", other.List(), !want)
	}
}

func TestExample(t *testing.T) {
	s := set(5, 1, 2, 3)
	wantSpans(t, s, 1, 3, 5, 5)
	wantAdd(t, s, 4, true)
	wantSpans(t, s, 1, 5)
}

func TestNew(t *testing.T) {
	wantSet(t, set())
	wantSet(t, nset.New([]int{}))
	wantSet(t, set(7), 7)
	wantSet(t, set(7, 7, 7), 7)
	wantSet(t, set(3, 1, 2, 3, 1), 1, 2, 3)
	wantSet(t, set(9, 0, 5, 1, 8, 4), 0, 1, 4, 5, 8, 9)
	wantSet(t, set(3, 1), 1, 3)
}

// Neither out of range numbers nor what they would be modulo something are in a set.
func TestRange(t *testing.T) {
	beyond := []int{math.MinInt, math.MinInt + 1, math.MinInt32, -greatest, -2, -1, greatest + 1, greatest + 2, 1 << 20, 1 << 32, 1<<32 + 5, math.MaxInt - 1, math.MaxInt}
	wantSet(t, nset.New(beyond))
	wantSet(t, nset.New(append([]int{greatest, 0}, beyond...)), 0, greatest)
	wantSet(t, nset.New(append(slices.Clone(beyond), greatest, 0)), 0, greatest)
	for _, l := range [][]int{nil, {5}, {0, greatest}} {
		s := nset.New(l)
		for _, n := range beyond {
			wantAdd(t, s, n, false)
			if s.Has(n) {
				t.Errorf("%v has %d", l, n)
			}
		}
		wantSet(t, s, l...)
	}
	s := set()
	wantAdd(t, s, 0, true)
	wantAdd(t, s, greatest, true)
	wantAdd(t, s, 1, true)
	wantAdd(t, s, greatest-1, true)
	wantSet(t, s, 0, 1, greatest-1, greatest)
}

func TestAdd(t *testing.T) {
	for _, c := range []struct {
		before []int
		n      int
		isNew  bool
		spans  []int
	}{
		{nil, 5, true, []int{5, 5}},
		{[]int{5}, 5, false, []int{5, 5}},
		{[]int{5}, 3, true, []int{3, 3, 5, 5}},
		{[]int{5}, 4, true, []int{4, 5}},
		{[]int{5}, 6, true, []int{5, 6}},
		{[]int{5}, 7, true, []int{5, 5, 7, 7}},
		{[]int{4, 5, 6}, 4, false, []int{4, 6}},
		{[]int{4, 5, 6}, 5, false, []int{4, 6}},
		{[]int{4, 5, 6}, 6, false, []int{4, 6}},
		{[]int{1, 2, 8, 9}, 5, true, []int{1, 2, 5, 5, 8, 9}},
		{[]int{1, 2, 8, 9}, 3, true, []int{1, 3, 8, 9}},
		{[]int{1, 2, 8, 9}, 7, true, []int{1, 2, 7, 9}},
		{[]int{1, 2, 4, 5}, 3, true, []int{1, 5}},
		{[]int{0, 2, 4, 6}, 3, true, []int{0, 0, 2, 4, 6, 6}},
		{[]int{0, 2, 4, 6}, 1, true, []int{0, 2, 4, 4, 6, 6}},
		{[]int{0, 2, 4, 6}, 5, true, []int{0, 0, 2, 2, 4, 6}},
		{[]int{1}, 0, true, []int{0, 1}},
		{[]int{greatest - 1}, greatest, true, []int{greatest - 1, greatest}},
	} {
		s := nset.New(c.before)
		wantAdd(t, s, c.n, c.isNew)
		wantSpans(t, s, c.spans...)
		wantAdd(t, s, c.n, false)
		wantSpans(t, s, c.spans...)
		if !s.Has(c.n) {
			t.Errorf("%v has no %d", c.spans, c.n)
		}
	}
}

func TestUnion(t *testing.T) {
	for _, c := range []struct {
		s, other []int
		isNew    bool
		want     []int
	}{
		{nil, nil, false, nil},
		{[]int{5}, nil, false, []int{5}},
		{nil, []int{5, 7}, true, []int{5, 7}},
		{[]int{5}, []int{5}, false, []int{5}},
		{[]int{1, 2, 3}, []int{2}, false, []int{1, 2, 3}},
		{[]int{1, 2, 3, 7, 8}, []int{1, 3, 8}, false, []int{1, 2, 3, 7, 8}},
		{[]int{2}, []int{1, 2, 3}, true, []int{1, 2, 3}},
		{[]int{1, 2}, []int{2, 3}, true, []int{1, 2, 3}},
		{[]int{2, 3}, []int{1, 2}, true, []int{1, 2, 3}},
		{[]int{1, 2, 3}, []int{3, 9}, true, []int{1, 2, 3, 9}},
		{[]int{1, 3}, []int{2}, true, []int{1, 2, 3}},
		{[]int{2}, []int{1, 3}, true, []int{1, 2, 3}},
		{[]int{1, 3, 5, 7}, []int{0, 2, 4, 6}, true, from(0, 7)},
		{[]int{1, 9}, []int{4, 5}, true, []int{1, 4, 5, 9}},
		{from(0, 20), []int{3, 7, 20}, false, from(0, 20)},
		{[]int{3, 7, 20}, from(0, 20), true, from(0, 20)},
		{[]int{0}, []int{greatest}, true, []int{0, greatest}},
	} {
		s, other := nset.New(c.s), nset.New(c.other)
		wantUnion(t, s, other, c.isNew)
		wantSet(t, s, c.want...)
		wantSet(t, other, c.other...)
		wantUnion(t, s, other, false)
		wantSet(t, s, c.want...)
	}
}

func TestUnionWithItself(t *testing.T) {
	for _, l := range [][]int{nil, {4}, {1, 2, 7, 9, 10}} {
		s := nset.New(l)
		wantUnion(t, s, s, false)
		wantSet(t, s, l...)
	}
}

func TestHas(t *testing.T) {
	s := set(2, 3, 4, 8, greatest)
	for n := -3; n < 12; n++ {
		if want := n >= 2 && n <= 4 || n == 8; s.Has(n) != want {
			t.Errorf("Has of %d is %t", n, !want)
		}
	}
	if s.Has(greatest-1) || !s.Has(greatest) || s.Has(greatest+1) {
		t.Error("Has of the greatest numbers")
	}
}

func TestMinus(t *testing.T) {
	for _, c := range []struct{ s, other, want []int }{
		{nil, nil, nil},
		{nil, []int{3}, nil},
		{[]int{3}, nil, []int{3}},
		{[]int{3}, []int{3}, nil},
		{from(1, 9), []int{1}, from(2, 9)},
		{from(1, 9), []int{9}, from(1, 8)},
		{from(1, 9), from(0, 10), nil},
		{from(1, 9), []int{0, 10}, from(1, 9)},
		{from(1, 9), []int{0, 1, 9, 10}, from(2, 8)},
		{from(1, 9), []int{3, 5, 6, 7}, []int{1, 2, 4, 8, 9}},
		{[]int{1, 3, 5, 7}, from(3, 5), []int{1, 7}},
		{[]int{1, 2, 4, 5, 7, 8}, []int{2, 3, 4, 5, 6, 7}, []int{1, 8}},
		{[]int{1, 2, 4, 5, 7, 8}, []int{3, 6, 9}, []int{1, 2, 4, 5, 7, 8}},
		{[]int{0, greatest}, []int{0}, []int{greatest}},
		{[]int{0, greatest}, []int{greatest}, []int{0}},
		{[]int{0, greatest}, []int{1, greatest - 1}, []int{0, greatest}},
	} {
		s, other := nset.New(c.s), nset.New(c.other)
		wantSet(t, s.Minus(other), c.want...)
		wantSet(t, s, c.s...)
		wantSet(t, other, c.other...)
	}
	s := set(4, 6)
	wantSet(t, s.Minus(s))
	wantSet(t, s, 4, 6)
}

// A set of all numbers, and one of every second number, which has the most runs.
func TestGreatestSets(t *testing.T) {
	whole := nset.New(from(0, greatest))
	wantSpans(t, whole, 0, greatest)
	if whole.Len() != greatest+1 || !slices.Equal(whole.List(), from(0, greatest)) {
		t.Errorf("%d numbers", whole.Len())
	}
	even, odd := set(), set()
	for n := 0; n < greatest; n += 2 {
		wantAdd(t, even, n, true)
		wantAdd(t, odd, n+1, true)
	}
	wantAdd(t, even, greatest, true)
	if len(even.Spans()) != greatest+2 || len(odd.Spans()) != greatest || even.Len() != greatest/2+1 || odd.Len() != greatest/2 {
		t.Errorf("%d and %d numbers", even.Len(), odd.Len())
	}
	if !slices.Equal(whole.Minus(even).Spans(), odd.Spans()) || !slices.Equal(whole.Minus(odd).Spans(), even.Spans()) {
		t.Error("Minus")
	}
	wantUnion(t, whole, odd, false)
	wantUnion(t, even, odd, true)
	wantSpans(t, even, 0, greatest)
}

func TestNilSet(t *testing.T) {
	var none *nset.Set
	wantAdd(t, none, 3, false)
	wantUnion(t, none, set(1, 2), false)
	wantUnion(t, none, set(), false)
	wantUnion(t, none, none, false)
	wantSet(t, none)
	if none.Has(0) || none.Has(3) {
		t.Error("Has")
	}
	s := set(4, 6)
	wantUnion(t, s, none, false)
	wantUnion(t, set(), none, false)
	wantSet(t, s.Minus(none), 4, 6)
	wantSet(t, s, 4, 6)
	for _, other := range []*nset.Set{none, set(), s} {
		empty := none.Minus(other)
		wantSet(t, empty)
		wantAdd(t, empty, 5, true)
		wantSet(t, empty, 5)
	}
}

// A set that New didn't return is an empty one.
func TestZeroSet(t *testing.T) {
	var a, b nset.Set
	wantSet(t, &a)
	wantSet(t, a.Minus(set(1)))
	wantAdd(t, &a, 8, true)
	wantUnion(t, &b, &a, true)
	wantSet(t, &a, 8)
	wantSet(t, &b, 8)
}
