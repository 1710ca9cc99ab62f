package ctype_test

import (
	"math"
	"slices"
	"strings"
	"testing"

	"crosstree/api"
	"crosstree/ctype"
)

var (
	void  = api.T{Kind: api.TVoid}
	char  = api.T{Kind: api.TChar}
	int4  = api.T{Kind: api.TInt}
	long  = api.T{Kind: api.TLong}
	aRec  = api.T{Kind: api.TStruct, Name: "s"}
	aUni  = api.T{Kind: api.TUnion, Name: "s"}
	other = api.T{Kind: api.TStruct, Name: "t"}
)

func pointer(t api.T) api.T {
	return api.T{Kind: api.TPtr, Of: []api.T{t}}
}

func array(n int, t api.T) api.T {
	return api.T{Kind: api.TArr, N: n, Of: []api.T{t}}
}

func function(l ...api.T) api.T {
	return api.T{Kind: api.TFunc, Of: l}
}

// ofEachKind has a valid type of each kind, at its number; 0: none.
func ofEachKind() []api.T {
	return []api.T{{}, void, char, int4, long, pointer(char), array(2, int4), aRec, aUni, function(void, int4)}
}

// strangeKinds are no kinds.
var strangeKinds = []int{0, -1, -5, api.TFunc + 1, api.TFunc + 2, 64, 256 + api.TInt, 1<<32 + api.TInt, math.MinInt, math.MaxInt}

func wantMay(t *testing.T, x api.T, want bool) {
	t.Helper()
	if ctype.May(x) != want {
		t.Errorf("May(%.200v) is not %v", text(x), want)
	}
}

// P4.1.

func TestValidTypes(t *testing.T) {
	for _, x := range ofEachKind()[1:] {
		wantMay(t, x, true)
		wantMay(t, pointer(x), true)
		wantMay(t, pointer(pointer(x)), true)
	}
	wantMay(t, array(3, array(4, pointer(function(pointer(void), char, pointer(aUni))))), true)
}

func TestKindsThatThereAreNot(t *testing.T) {
	for _, k := range strangeKinds {
		for _, x := range []api.T{{Kind: k}, {Kind: k, Name: "s"}, {Kind: k, N: 1, Of: []api.T{int4}}, {Kind: k, Of: []api.T{int4}}} {
			wantMay(t, x, false)
			wantMay(t, pointer(x), false)
			wantMay(t, array(1, x), false)
			wantMay(t, function(x), false)
			wantMay(t, function(int4, x), false)
		}
	}
}

func TestNames(t *testing.T) {
	for i, x := range ofEachKind() {
		named := i == api.TStruct || i == api.TUnion
		for _, name := range []string{"s", "int", "0", " ", "\x00", "\xff", strings.Repeat("n", 23), strings.Repeat("n", 24), strings.Repeat("ä", 12)} {
			x.Name = name
			wantMay(t, x, named)
			wantMay(t, pointer(x), named)
		}
		x.Name = ""
		wantMay(t, x, i > 0 && !named)
		for _, name := range []string{strings.Repeat("n", 25), strings.Repeat("ä", 13), strings.Repeat("ä", 24), strings.Repeat("n", 1000)} {
			x.Name = name
			wantMay(t, x, false)
		}
	}
}

func TestNumbersOfElements(t *testing.T) {
	for i, x := range ofEachKind() {
		for _, n := range []int{1, 2, 4095, 4096} {
			x.N = n
			wantMay(t, x, i == api.TArr)
			wantMay(t, pointer(x), i == api.TArr)
		}
		for _, n := range []int{-1, -2, -4096, 4097, 1 << 32, 1<<32 + 1, math.MinInt, math.MaxInt} {
			x.N = n
			wantMay(t, x, false)
		}
		x.N = 0
		wantMay(t, x, i > 0 && i != api.TArr)
	}
}

// The number of parts: none, if a kind isn't mentioned.
func TestNumbersOfParts(t *testing.T) {
	for i, x := range ofEachKind() {
		for n := range 12 {
			x.Of = slices.Repeat([]api.T{int4}, n)
			want := n == 0
			switch i {
			case 0:
				want = false
			case api.TPtr, api.TArr:
				want = n == 1
			case api.TFunc:
				want = n >= 1 && n <= 7
			}
			wantMay(t, x, want)
			wantMay(t, pointer(x), want)
		}
	}
	wantMay(t, api.T{Kind: api.TInt, Of: []api.T{}}, true)
	wantMay(t, api.T{Kind: api.TPtr, Of: []api.T{}}, false)
}

func TestKindsOfParts(t *testing.T) {
	scalars := []int{api.TChar, api.TInt, api.TLong, api.TPtr}
	for k, x := range ofEachKind() {
		wantMay(t, pointer(x), k > 0)
		wantMay(t, array(2, x), k > 0 && k != api.TVoid && k != api.TFunc)
		wantMay(t, array(2, array(2, x)), k > 0 && k != api.TVoid && k != api.TFunc)
		wantMay(t, function(x), k > 0 && k != api.TArr && k != api.TFunc)
		for n := range 6 {
			l := slices.Repeat([]api.T{int4}, 7)
			l[n+1] = x
			wantMay(t, function(l...), slices.Contains(scalars, k))
			wantMay(t, function(l[:n+2]...), slices.Contains(scalars, k))
		}
	}
}

// A fault anywhere within a type is a fault of the type.
func TestFaultsWithin(t *testing.T) {
	for _, x := range []api.T{{}, {Kind: api.TPtr}, {Kind: api.TInt, N: 1}, {Kind: api.TLong, Name: "a"}, {Kind: api.TStruct}, array(0, int4), array(4097, int4), array(1, void), function(), function(int4, aRec)} {
		for range 20 {
			wantMay(t, x, false)
			wantMay(t, function(void, int4, pointer(x), int4), false)
			wantMay(t, function(pointer(x), int4), false)
			wantMay(t, array(1, pointer(x)), false)
			x = pointer(x)
		}
	}
}

func TestNestingOfTypes(t *testing.T) {
	wraps := []func(api.T) api.T{
		pointer,
		func(x api.T) api.T { return pointer(function(x)) },
		func(x api.T) api.T { return pointer(function(void, x)) },
		func(x api.T) api.T { return pointer(function(long, char, char, char, char, char, x)) },
		func(x api.T) api.T { return pointer(function(pointer(int4), pointer(int4), x, pointer(int4))) },
		func(x api.T) api.T { return array(1, x) },
		func(x api.T) api.T { return array(1, pointer(x)) },
		func(x api.T) api.T { return array(1, array(4096, pointer(array(7, x)))) },
	}
	for i, wrap := range wraps {
		for _, leaf := range []api.T{int4, aRec, pointer(void), pointer(function(void))} {
			if leaf.Kind == api.TStruct && i >= 1 && i <= 4 {
				leaf = pointer(leaf)
			}
			x := leaf
			for range 80 {
				wantMay(t, x, valid(x, 60))
				wantMay(t, pointer(x), valid(x, 59))
				x = wrap(x)
			}
		}
	}
	x := int4
	for n := 1; n <= 100; n++ {
		wantMay(t, x, n <= 60)
		x = pointer(x)
	}
}

// P4.2.

func wantSame(t *testing.T, x, y api.T, want bool) {
	t.Helper()
	if ctype.Same(x, y) != want || ctype.Same(y, x) != want {
		t.Errorf("Same(%.200v, %.200v) is not %v", text(x), text(y), want)
	}
}

func TestSameAndOthers(t *testing.T) {
	l := []api.T{
		{}, void, char, int4, long, {Kind: -1}, {Kind: 99}, {Kind: math.MinInt}, {Kind: api.TInt, N: 1}, {Kind: api.TInt, N: -1}, {Kind: api.TInt, N: 1 << 32}, {Kind: api.TInt, Name: "s"},
		aRec, aUni, other, {Kind: api.TStruct}, {Kind: api.TStruct, Name: "S"}, {Kind: api.TStruct, Name: "ss"}, {Kind: api.TStruct, Name: "s", N: 1}, {Kind: api.TStruct, Name: "s", Of: []api.T{int4}},
		{Kind: api.TPtr}, {Kind: api.TPtr, Of: []api.T{{}}}, pointer(void), pointer(int4), pointer(long), pointer(aRec), pointer(pointer(int4)), {Kind: api.TPtr, N: 1, Of: []api.T{int4}}, {Kind: api.TPtr, Of: []api.T{int4, int4}},
		array(2, int4), array(3, int4), array(2, long), array(2, array(3, int4)), array(3, array(2, int4)), {Kind: api.TArr, N: 2},
		function(), function(void), function(int4), function(int4, int4), function(int4, long), function(long, int4), function(int4, int4, int4), pointer(function(int4, int4)), function(int4, pointer(aRec)), function(int4, pointer(aUni)),
	}
	for i, x := range l {
		for j, y := range l {
			wantSame(t, x, y, i == j)
			wantSame(t, pointer(x), pointer(y), i == j)
			wantSame(t, function(int4, x, aRec), function(int4, y, aRec), i == j)
			wantSame(t, array(5, function(long, int4, pointer(x))), array(5, function(long, int4, pointer(y))), i == j)
		}
		wantSame(t, x, pointer(x), false)
	}
}

func TestEmptyListsAreTheSame(t *testing.T) {
	for k := -1; k <= api.TFunc+1; k++ {
		x, y := api.T{Kind: k}, api.T{Kind: k, Of: make([]api.T, 0, 3)}
		wantSame(t, x, y, true)
		wantSame(t, pointer(x), pointer(y), true)
	}
}

func TestNumbersAndScalars(t *testing.T) {
	numbers := []int{api.TChar, api.TInt, api.TLong}
	for _, k := range append([]int{1, 2, 3, 4, 5, 6, 7, 8, 9}, strangeKinds...) {
		for _, x := range []api.T{{Kind: k}, {Kind: k, N: 5, Name: "x", Of: []api.T{int4}}, {Kind: k, N: -1, Of: []api.T{{}, {}}}} {
			number := slices.Contains(numbers, k)
			if ctype.Number(x) != number {
				t.Errorf("Number(%v) is not %v", text(x), number)
			}
			if ctype.Scalar(x) != (number || k == api.TPtr) {
				t.Errorf("Scalar(%v) is %v", text(x), number)
			}
		}
	}
}

func wantDecay(t *testing.T, x, want api.T) {
	t.Helper()
	if got := ctype.Decay(x); !same(got, want) {
		t.Errorf("Decay(%v) = %v, want %v", text(x), text(got), text(want))
	}
}

func TestDecay(t *testing.T) {
	for k, x := range ofEachKind() {
		if k != api.TArr && k != api.TFunc {
			wantDecay(t, x, x)
		}
		wantDecay(t, array(3, x), pointer(x))
		wantDecay(t, array(0, array(3, x)), pointer(array(3, x)))
		wantDecay(t, function(x, x), pointer(function(x, x)))
		wantDecay(t, pointer(x), pointer(x))
		wantDecay(t, api.T{Kind: api.TArr, N: -7, Name: "n", Of: []api.T{x, int4, {}}}, pointer(x))
		wantDecay(t, api.T{Kind: api.TFunc, N: 7, Name: "n", Of: []api.T{x, {}}}, pointer(api.T{Kind: api.TFunc, N: 7, Name: "n", Of: []api.T{x, {}}}))
	}
	wantDecay(t, array(3, int4), pointer(int4))
	wantDecay(t, function(), pointer(function()))
	for _, x := range []api.T{{}, {Kind: api.TArr}, {Kind: api.TArr, N: 3, Name: "n"}, {Kind: api.TArr, N: 3, Of: []api.T{}}, {Kind: 99, N: 1, Name: "n", Of: []api.T{int4, {}}}, {Kind: -1, Of: []api.T{array(2, int4)}}, {Kind: api.TInt, N: 4, Of: []api.T{int4}}} {
		wantDecay(t, x, x)
	}
}

// P4.3.

func wantFits(t *testing.T, to, from api.T, zero, want bool) {
	t.Helper()
	if ctype.Fits(to, from, zero) != want {
		t.Errorf("Fits(%v, %v, %v) is not %v", text(to), text(from), zero, want)
	}
}

func TestNumbersFitNumbers(t *testing.T) {
	for i, to := range ofEachKind() {
		for j, from := range ofEachKind() {
			for _, zero := range []bool{false, true} {
				if i >= api.TChar && i <= api.TLong {
					wantFits(t, to, from, zero, j >= api.TChar && j <= api.TLong)
				}
			}
		}
	}
	wantFits(t, api.T{Kind: api.TInt, N: 1}, api.T{Kind: api.TLong, Name: "n"}, false, true)
}

func TestZeroFitsPointers(t *testing.T) {
	for i, to := range append(ofEachKind(), api.T{Kind: 99}, api.T{Kind: api.TPtr}) {
		for _, from := range append(ofEachKind(), api.T{Kind: 99}) {
			if to.Kind == api.TPtr {
				wantFits(t, to, from, true, true)
			} else if i < api.TChar || i > api.TLong {
				wantFits(t, to, from, true, same(to, from) && (to.Kind == api.TStruct || to.Kind == api.TUnion))
			}
		}
	}
}

func TestPointersFitPointers(t *testing.T) {
	strange := []api.T{{Kind: api.TPtr}, {Kind: api.TPtr, Of: []api.T{void, void}}, {Kind: api.TPtr, Of: []api.T{int4, void}}, {Kind: api.TPtr, N: 1, Of: []api.T{int4}}, {Kind: api.TPtr, Of: []api.T{{}}}, pointer(pointer(void)), pointer(array(1, void)), pointer(function(void))}
	voids := []api.T{pointer(void), {Kind: api.TPtr, N: 2, Name: "n", Of: []api.T{void}}, pointer(api.T{Kind: api.TVoid, N: 1, Of: []api.T{int4}})}
	plain := []api.T{pointer(int4), pointer(char), pointer(long), pointer(aRec), pointer(aUni), pointer(other), pointer(pointer(int4)), pointer(array(2, int4)), pointer(array(3, int4)), pointer(function(int4)), pointer(function(int4, int4))}
	all := slices.Concat(strange, plain)
	for i, to := range all {
		for j, from := range all {
			wantFits(t, to, from, false, i == j)
		}
		for _, v := range voids {
			wantFits(t, to, v, false, true)
			wantFits(t, v, to, false, true)
		}
		for _, from := range ofEachKind() {
			if from.Kind != api.TPtr {
				wantFits(t, to, from, false, false)
				wantFits(t, from, to, false, false)
				wantFits(t, from, to, true, false)
				wantFits(t, pointer(void), from, false, false)
				wantFits(t, from, pointer(void), false, false)
			}
		}
	}
	for _, v := range voids {
		for _, w := range voids {
			wantFits(t, v, w, false, true)
		}
	}
}

func TestRecordsFitTheSame(t *testing.T) {
	l := []api.T{aRec, aUni, other, {Kind: api.TUnion, Name: "t"}, {Kind: api.TStruct}, {Kind: api.TStruct, Name: "s", N: 1}, {Kind: api.TStruct, Name: "s", Of: []api.T{int4}}}
	for i, to := range l {
		for j, from := range l {
			wantFits(t, to, from, false, i == j)
			wantFits(t, to, from, true, i == j)
		}
	}
}

// What is neither a number nor a pointer nor a record fits nothing, itself neither.
func TestOthersFitNothing(t *testing.T) {
	l := []api.T{void, array(2, int4), function(int4), {}, {Kind: -1}, {Kind: 99}, {Kind: 1<<32 + api.TInt}}
	for _, to := range l {
		for _, from := range slices.Concat(l, ofEachKind()) {
			for _, zero := range []bool{false, true} {
				wantFits(t, to, from, zero, false)
				wantFits(t, from, to, zero, zero && from.Kind == api.TPtr)
			}
		}
	}
}

func TestWidth(t *testing.T) {
	widths := map[int]int{api.TChar: 1, api.TInt: 4, api.TLong: 8, api.TPtr: 8}
	for _, k := range append([]int{1, 2, 3, 4, 5, 6, 7, 8, 9}, strangeKinds...) {
		for _, x := range []api.T{{Kind: k}, {Kind: k, N: 5, Name: "x", Of: []api.T{int4}}} {
			if n := ctype.Width(x); n != widths[k] {
				t.Errorf("Width(%v) = %d, want %d", text(x), n, widths[k])
			}
		}
	}
}

// The chapter's examples.
func TestExamples(t *testing.T) {
	wantFits(t, pointer(char), pointer(void), false, true)
	wantFits(t, pointer(char), pointer(int4), false, false)
	wantDecay(t, array(3, int4), pointer(int4))
}
