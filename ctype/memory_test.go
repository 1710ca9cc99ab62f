package ctype_test

import (
	"math"
	"math/rand/v2"
	"testing"

	"crosstree/api"
	"crosstree/ctype"
)

// R2, R3 and P1: whose memory it is, and that every call ends.

// deepCopy is x in memory of its own.
func deepCopy(x api.T) api.T {
	var l []api.T
	for _, p := range x.Of {
		l = append(l, deepCopy(p))
	}
	x.Of = l
	return x
}

// overwrite puts something else in all of a type's lists, and in the room behind them.
func overwrite(x api.T) {
	l := x.Of[:cap(x.Of)]
	for i := range l {
		overwrite(l[i])
		l[i] = api.T{Kind: 77, N: 77, Name: "gone"}
	}
}

func TestAnswersAreTheCallers(t *testing.T) {
	r := rand.New(rand.NewPCG(4, 3))
	for range 5000 {
		x := randomType(r, 4)
		before := deepCopy(x)
		d := ctype.Decay(x)
		want := deepCopy(decay(x))
		overwrite(d)
		if !same(x, before) {
			t.Fatalf("%v is %v when its Decay is overwritten", text(before), text(x))
		}
		d = ctype.Decay(x)
		overwrite(x)
		if !same(d, want) {
			t.Fatalf("the Decay of %v is %v when that is overwritten", text(before), text(d))
		}
	}
}

// An empty list may have room behind it.
func TestRoomBehindLists(t *testing.T) {
	room := []api.T{int4, long, char}
	for k := range 11 {
		d := ctype.Decay(api.T{Kind: k, Of: room[:0]})
		for d.Kind == api.TPtr && len(d.Of) > 0 {
			d = d.Of[0]
		}
		_ = append(d.Of, void)
		d = ctype.Decay(function(api.T{Kind: k, Of: room[:0]}, api.T{Kind: k, Of: room[:1]}))
		_ = append(d.Of[0].Of[0].Of, void)
		_ = append(d.Of[0].Of[1].Of, void)
	}
	if !same(function(room...), function(int4, long, char)) {
		t.Errorf("the room behind a list is %v", text(function(room...)))
	}
}

func TestListsOfAnAnswerAreNotShared(t *testing.T) {
	p := pointer(pointer(int4))
	for _, x := range []api.T{function(p, p, p), array(2, function(p, p, p)), pointer(function(p, p, p)), pointer(pointer(function(p, p, p)))} {
		d := ctype.Decay(x)
		for d.Kind != api.TFunc {
			d = d.Of[0]
		}
		d.Of[0].Of[0].Of[0].Kind = 77
		d.Of[2].Of[0] = void
		if !same(d, function(pointer(pointer(api.T{Kind: 77})), p, pointer(void))) {
			t.Errorf("lists of the Decay of %v are shared: %v", text(x), text(d))
		}
	}
}

func TestArgumentsAreLeftAlone(t *testing.T) {
	r := rand.New(rand.NewPCG(4, 4))
	for range 2000 {
		x, y := randomType(r, 3), randomType(r, 3)
		a, b := deepCopy(x), deepCopy(y)
		all(x, y)
		if !same(x, a) || !same(y, b) {
			t.Fatalf("%v, %v were changed to %v, %v", text(a), text(b), text(x), text(y))
		}
	}
}

// all calls everything.
func all(x, y api.T) {
	ctype.May(x)
	ctype.Same(x, y)
	ctype.Number(x)
	ctype.Scalar(x)
	ctype.Decay(x)
	ctype.Fits(x, y, false)
	ctype.Fits(x, y, true)
	ctype.Width(x)
}

// holdsItself is a type whose list holds it: a number of types of the kinds, in one list.
func holdsItself(kinds ...int) api.T {
	l := make([]api.T, len(kinds))
	for i, k := range kinds {
		l[i] = api.T{Kind: k, N: 1, Of: l}
		if k == api.TPtr || k == api.TFunc {
			l[i].N = 0
		}
	}
	return l[0]
}

func TestTypesThatHoldThemselves(t *testing.T) {
	for _, kinds := range [][]int{{api.TPtr}, {api.TArr}, {api.TFunc}, {0}, {99}, {api.TFunc, api.TPtr}, {api.TPtr, api.TPtr, api.TPtr}, {api.TStruct, api.TArr}} {
		x, y := holdsItself(kinds...), holdsItself(kinds...)
		all(x, y)
		all(x, x)
		wantNotMay(t, x)
		wantNotMay(t, pointer(x))
		if !ctype.Same(x, y) || !ctype.Same(x, x) || ctype.Same(x, int4) || ctype.Same(int4, x) {
			t.Errorf("types that hold themselves, of %v, are not the same", kinds)
		}
		if ctype.Same(x, holdsItself(append(kinds, kinds[0])...)) || ctype.Same(x, holdsItself(append([]int{math.MaxInt}, kinds[1:]...)...)) {
			t.Errorf("types that hold themselves, of %v and others, are the same", kinds)
		}
		if kinds[0] != api.TArr && kinds[0] != api.TFunc && !ctype.Same(ctype.Decay(x), x) {
			t.Errorf("Decay of a type that holds itself, of %v, is another", kinds)
		}
	}
	p, q := pointer(int4), pointer(pointer(int4))
	p.Of[0] = p
	q.Of[0].Of[0] = q
	if !ctype.Same(p, q) || !ctype.Fits(p, q, false) {
		t.Error("pointers without an end are not the same")
	}
}

// wantNotMay is for types of which there is no text.
func wantNotMay(t *testing.T, x api.T) {
	t.Helper()
	if ctype.May(x) {
		t.Errorf("May of a type of kind %d without an end, or far too great", x.Kind)
	}
}

// Shared memory may be small where the type is great.
func TestTypesThatShare(t *testing.T) {
	x, y := int4, int4
	for n := 1; n < 200; n += 2 {
		if ctype.May(x) != (n <= 60) || !ctype.Same(x, y) || !ctype.Fits(pointer(x), pointer(y), false) {
			t.Errorf("types of %d levels that share", n)
		}
		p, q := pointer(function(int4, x, x, x)), pointer(function(int4, y, y, y))
		if n == 1 {
			q = deepCopy(q)
		}
		x, y = p, q
	}
	before := x
	all(x, y)
	if !ctype.Same(ctype.Decay(x), before) {
		t.Error("Decay of a great type is another")
	}
	y.Of[0].Of[3] = int4
	if ctype.Same(x, y) || ctype.Same(y, x) {
		t.Error("a great type is the same as another")
	}
}

func TestVeryDeepTypes(t *testing.T) {
	x, y, z := int4, int4, long
	for range 65000 {
		x, y, z = pointer(x), pointer(y), pointer(z)
	}
	all(x, y)
	wantNotMay(t, x)
	if !ctype.Same(x, y) || ctype.Same(x, z) || ctype.Same(x, y.Of[0]) || !ctype.Same(ctype.Decay(x), x) {
		t.Error("very deep types")
	}
}

func TestVeryWideTypes(t *testing.T) {
	l, m := make([]api.T, 200000), make([]api.T, 200000)
	for i := range l {
		l[i], m[i] = pointer(int4), pointer(int4)
	}
	x, y := function(l...), function(m...)
	all(x, y)
	wantNotMay(t, x)
	if !ctype.Same(x, y) || !ctype.Same(ctype.Decay(x), pointer(y)) {
		t.Error("very wide types are not the same")
	}
	m[len(m)-1].Of[0] = char
	if ctype.Same(x, y) {
		t.Error("a very wide type is the same as another")
	}
}
