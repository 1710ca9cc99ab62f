package nset_test

import (
	"math"
	"slices"
	"sync"
	"testing"

	"crosstree/nset"
)

// R1, R3, R4, R5 and P1: whose memory it is, that sets are apart, and that every call ends.

// spoil overwrites a list, and what lies behind it.
func spoil(l []int) {
	l = l[:cap(l)]
	for i := range l {
		l[i] = -7
	}
}

func TestArgumentStays(t *testing.T) {
	l := []int{9, 4, 4, -1, 5, greatest + 1, 0}
	kept := slices.Clone(l)
	s := nset.New(l)
	if !slices.Equal(l, kept) {
		t.Errorf("the argument became %v", l)
	}
	spoil(l)
	wantSet(t, s, 0, 4, 5, 9)
}

func TestAnswersAreTheCallers(t *testing.T) {
	s := set(1, 2, 3, 7, 9)
	s.Union(set(20))
	for range 2 {
		spoil(s.List())
		spoil(s.Spans())
		wantSet(t, s, 1, 2, 3, 7, 9, 20)
	}
	list, spans := s.List(), s.Spans()
	s.Add(0)
	s.Add(8)
	if !slices.Equal(list, []int{1, 2, 3, 7, 9, 20}) || !slices.Equal(spans, []int{1, 3, 7, 7, 9, 9, 20, 20}) {
		t.Errorf("answers became %v and %v", list, spans)
	}
}

// A set that was united with another one, or cut from it, changes without it.
func TestSetsAreApart(t *testing.T) {
	for _, l := range [][]int{nil, {5}, {1, 2, 3, 7, 9, 20}} {
		for _, change := range []int{0, 4, 6, 8, 30} {
			s := nset.New(l)
			empty, part, same := set(), set(40), nset.New(l)
			empty.Union(s)
			part.Union(s)
			same.Union(s)
			for _, other := range []*nset.Set{empty, part, same, s.Minus(nil), s.Minus(set()), s.Minus(set(100)), nset.New(l)} {
				kept := other.List()
				s.Add(change)
				wantSet(t, other, kept...)
				kept = s.List()
				other.Add(change)
				other.Add(change + 1)
				other.Union(set(change-1, 50))
				wantSet(t, s, kept...)
			}
		}
	}
	wantSet(t, set())
}

// Many may ask a set at once, and be united with it, while nobody changes it.
func TestAskingChangesNothing(t *testing.T) {
	s := set(1, 2, 3, 7, 9, 20)
	var all sync.WaitGroup
	for range 8 {
		all.Go(func() {
			for range 200 {
				o := set(8)
				o.Union(s)
				wantSet(t, o, 1, 2, 3, 7, 8, 9, 20)
				wantSet(t, s.Minus(o))
				wantSet(t, o.Minus(s), 8)
				wantSet(t, s, 1, 2, 3, 7, 9, 20)
			}
		})
	}
	all.Wait()
}

func TestEveryCallEnds(t *testing.T) {
	ints := []int{math.MinInt, math.MinInt + 1, -greatest, -1, 0, 1, 2, greatest - 1, greatest, greatest + 1, 1 << 32, math.MaxInt - 1, math.MaxInt}
	sets := func() []*nset.Set {
		return []*nset.Set{nil, {}, set(), nset.New(ints), nset.New(from(0, greatest)), set(0), set(greatest)}
	}
	for _, n := range ints {
		l := sets()
		for _, s := range l {
			s.Has(n)
			s.Add(n)
			s.Len()
			s.Spans()
			for _, o := range l {
				s.Minus(o).Len()
				s.Union(o)
			}
		}
	}
	nset.New(slices.Repeat(ints, 1000))
}
