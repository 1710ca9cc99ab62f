package nset_test

import (
	"math/bits"
	"math/rand/v2"
	"slices"
	"testing"

	"crosstree/nset"
)

// A second set, which knows of each number whether it is in it. Every function is held against it, and P13.3 for what comes out.

type second map[int]struct{}

func (x second) add(n int) bool {
	_, had := x[n]
	if had || n < 0 || n > greatest {
		return false
	}
	x[n] = struct{}{}
	return true
}

func (x second) union(y second) bool {
	grown := false
	for n := range y {
		if x.add(n) {
			grown = true
		}
	}
	return grown
}

func (x second) minus(y second) second {
	z := second{}
	for n := range x {
		if _, had := y[n]; !had {
			z.add(n)
		}
	}
	return z
}

func (x second) list() []int {
	var l []int
	for n := range x {
		l = append(l, n)
	}
	slices.Sort(l)
	return l
}

func secondOf(l []int) second {
	x := second{}
	for _, n := range l {
		x.add(n)
	}
	return x
}

// wantSecond holds a set against the second one, and P13.3's last sentence.
func wantSecond(t *testing.T, s *nset.Set, x second) {
	t.Helper()
	wantSet(t, s, x.list()...)
	ends := s.Spans()
	if len(ends)%2 != 0 || len(ends)/2 > s.Len() {
		t.Errorf("the runs of %v are %v", s.List(), ends)
	}
	for i := 2; i < len(ends); i += 2 {
		if between := ends[i-1] + 1; between >= ends[i] || s.Has(between) {
			t.Errorf("no number between the runs %v", ends)
		}
	}
}

// wantLaws holds Union and Minus of two sets against the second ones, and P13.3.
func wantLaws(t *testing.T, a, b []int) {
	t.Helper()
	s, o := nset.New(a), nset.New(b)
	x, y := secondOf(a), secondOf(b)
	rest := s.Minus(o)
	both := s.Minus(rest)
	wantSecond(t, rest, x.minus(y))
	wantSecond(t, both, x.minus(x.minus(y)))
	whole := nset.New(rest.List())
	whole.Union(both)
	wantSecond(t, whole, x)
	if both.Len()+rest.Len() != s.Len() {
		t.Errorf("%v and %v of %v", both.List(), rest.List(), a)
	}
	one, other := nset.New(a), nset.New(b)
	wantUnion(t, one, o, x.union(y))
	wantUnion(t, other, s, secondOf(b).union(secondOf(a)))
	wantSecond(t, one, x)
	wantSecond(t, other, x)
	wantSecond(t, s, secondOf(a))
	wantSecond(t, o, y)
}

// bitsOf returns the numbers of the bits of n.
func bitsOf(n uint) []int {
	var l []int
	for ; n != 0; n &= n - 1 {
		l = append(l, bits.TrailingZeros(n))
	}
	return l
}

// All pairs of sets of the numbers from 0 to 6.
func TestAllSmallPairs(t *testing.T) {
	for a := range uint(1 << 7) {
		for b := range uint(1 << 7) {
			wantLaws(t, bitsOf(a), bitsOf(b))
		}
	}
}

// Each number that is added to each set of the numbers from 0 to 9.
func TestAllSmallAdds(t *testing.T) {
	for a := range uint(1 << 10) {
		for n := -2; n < 13; n++ {
			s, x := nset.New(bitsOf(a)), secondOf(bitsOf(a))
			if s.Has(n) != slices.Contains(bitsOf(a), n) {
				t.Errorf("Has of %d in %v", n, bitsOf(a))
			}
			wantAdd(t, s, n, x.add(n))
			wantSecond(t, s, x)
		}
	}
}

type maker struct{ *rand.Rand }

// number returns one near 0, near the greatest one, or anywhere, and at times one out of range.
func (r maker) number() int {
	switch r.IntN(8) {
	case 0:
		return r.IntN(greatest + 1)
	case 1, 2:
		return greatest - r.IntN(40) + 4
	}
	return r.IntN(60) - 4
}

// list returns some numbers, some of them in runs, in any order.
func (r maker) list() []int {
	var l []int
	for range r.IntN(8) {
		n := r.number()
		l = append(l, from(n, n+r.IntN(1+r.IntN(12)))...)
	}
	r.Shuffle(len(l), func(i, j int) { l[i], l[j] = l[j], l[i] })
	return l
}

func TestRandomPairs(t *testing.T) {
	r := maker{rand.New(rand.NewPCG(13, 1))}
	for range 5000 {
		wantLaws(t, r.list(), r.list())
	}
}

// Sets that are changed again and again, by numbers and by each other.
func TestRandomHistories(t *testing.T) {
	r := maker{rand.New(rand.NewPCG(13, 2))}
	for range 300 {
		var sets [3]*nset.Set
		var seconds [3]second
		for i := range sets {
			l := r.list()
			sets[i], seconds[i] = nset.New(l), secondOf(l)
		}
		for range 40 {
			i, j := r.IntN(3), r.IntN(3)
			switch r.IntN(6) {
			case 0:
				wantUnion(t, sets[i], sets[j], seconds[i].union(seconds[j]))
			case 1:
				k := r.IntN(3)
				sets[k], seconds[k] = sets[i].Minus(sets[j]), seconds[i].minus(seconds[j])
			default:
				n := r.number()
				wantAdd(t, sets[i], n, seconds[i].add(n))
			}
			for k := range sets {
				wantSecond(t, sets[k], seconds[k])
			}
			if t.Failed() {
				return
			}
		}
	}
}

// The order in which numbers come doesn't matter, nor whether New, Add or Union brings them.
func TestAnyOrder(t *testing.T) {
	r := maker{rand.New(rand.NewPCG(13, 3))}
	for range 1000 {
		l := r.list()
		added, united := set(), set()
		for _, i := range r.Perm(len(l)) {
			added.Add(l[i])
		}
		for _, i := range r.Perm(len(l)) {
			united.Union(set(l[i]))
		}
		x := secondOf(l)
		wantSecond(t, nset.New(l), x)
		wantSecond(t, added, x)
		wantSecond(t, united, x)
	}
}
