package ctype_test

import (
	"math/rand/v2"
	"slices"
	"strconv"
	"strings"
	"testing"

	"crosstree/api"
	"crosstree/ctype"
)

// A second ctype, written as the chapter's definitions stand there, which every function is held against.

func same(t, u api.T) bool {
	return t.Kind == u.Kind && t.N == u.N && t.Name == u.Name && slices.EqualFunc(t.Of, u.Of, same)
}

func isScalar(t api.T) bool {
	return isNumber(t) || t.Kind == api.TPtr
}

func isNumber(t api.T) bool {
	return t.Kind == api.TChar || t.Kind == api.TInt || t.Kind == api.TLong
}

// valid reports whether t is valid and nested at most so many types deep.
func valid(t api.T, deep int) bool {
	if deep == 0 {
		return false
	}
	for _, u := range t.Of {
		if !valid(u, deep-1) {
			return false
		}
	}
	switch t.Kind {
	case api.TVoid, api.TChar, api.TInt, api.TLong:
		return t.N == 0 && t.Name == "" && len(t.Of) == 0
	case api.TPtr:
		return t.N == 0 && t.Name == "" && len(t.Of) == 1
	case api.TArr:
		return t.N >= 1 && t.N <= 4096 && t.Name == "" && len(t.Of) == 1 && t.Of[0].Kind != api.TVoid && t.Of[0].Kind != api.TFunc
	case api.TStruct, api.TUnion:
		return t.N == 0 && len(t.Name) >= 1 && len(t.Name) <= 24 && len(t.Of) == 0
	case api.TFunc:
		if t.N != 0 || t.Name != "" || len(t.Of) < 1 || len(t.Of) > 7 || t.Of[0].Kind == api.TArr || t.Of[0].Kind == api.TFunc {
			return false
		}
		for _, u := range t.Of[1:] {
			if !isScalar(u) {
				return false
			}
		}
		return true
	}
	return false
}

func decay(t api.T) api.T {
	if t.Kind == api.TArr && len(t.Of) > 0 {
		return pointer(t.Of[0])
	}
	if t.Kind == api.TFunc {
		return pointer(t)
	}
	return t
}

func isVoidPointer(t api.T) bool {
	return t.Kind == api.TPtr && len(t.Of) == 1 && t.Of[0].Kind == api.TVoid
}

func isRecord(t api.T) bool {
	return t.Kind == api.TStruct || t.Kind == api.TUnion
}

func fits(to, from api.T, zero bool) bool {
	return isNumber(to) && isNumber(from) ||
		to.Kind == api.TPtr && zero ||
		to.Kind == api.TPtr && from.Kind == api.TPtr && (same(to, from) || isVoidPointer(to) || isVoidPointer(from)) ||
		isRecord(to) && isRecord(from) && same(to, from)
}

// text is a type for the eye.
func text(t api.T) string {
	var b strings.Builder
	b.WriteString(strconv.Itoa(t.Kind))
	if t.N != 0 {
		b.WriteString(" N " + strconv.Itoa(t.N))
	}
	if t.Name != "" {
		b.WriteString(" " + strconv.Quote(t.Name))
	}
	for i, u := range t.Of {
		b.WriteString([]string{",", "("}[1-min(i, 1)] + text(u))
	}
	if len(t.Of) > 0 {
		b.WriteString(")")
	}
	return b.String()
}

// wantAsReference checks everything that is said of one type or of two, with P4.4.
func wantAsReference(t *testing.T, x, y api.T) {
	t.Helper()
	if ctype.May(x) != valid(x, 60) {
		t.Fatalf("May(%v) is not %v", text(x), valid(x, 60))
	}
	if ctype.Same(x, y) != same(x, y) {
		t.Fatalf("Same(%v, %v) is not %v", text(x), text(y), same(x, y))
	}
	for _, zero := range []bool{false, true} {
		if ctype.Fits(x, y, zero) != fits(x, y, zero) {
			t.Fatalf("Fits(%v, %v, %v) is not %v", text(x), text(y), zero, fits(x, y, zero))
		}
	}
	d := ctype.Decay(x)
	if !same(d, decay(x)) || !same(ctype.Decay(d), d) {
		t.Fatalf("Decay(%v) = %v, Decay of that is %v", text(x), text(d), text(ctype.Decay(d)))
	}
	if !ctype.Same(x, x) || (ctype.Scalar(x) || isRecord(x)) && !ctype.Fits(x, x, false) {
		t.Fatalf("%v isn't the same as itself, or doesn't fit it", text(x))
	}
}

// smallTypes are all types of one level, with strange ones, and of two with at most two parts.
func smallTypes() []api.T {
	var leaves, l []api.T
	for k := range 11 {
		for _, n := range []int{0, 1} {
			for _, name := range []string{"", "s"} {
				leaves = append(leaves, api.T{Kind: k, N: n, Name: name})
			}
		}
	}
	l = append(l, leaves...)
	for _, a := range leaves {
		for _, x := range leaves {
			x.Of = []api.T{a}
			l = append(l, x)
		}
		for _, b := range ofEachKind() {
			for k := range 11 {
				l = append(l, api.T{Kind: k, Of: []api.T{a, b}}, api.T{Kind: k, N: 1, Of: []api.T{b, a}})
			}
		}
	}
	return l
}

func TestAllSmallTypes(t *testing.T) {
	l := smallTypes()
	r := rand.New(rand.NewPCG(4, 1))
	for i, x := range l {
		wantAsReference(t, x, x)
		wantAsReference(t, x, l[(i+1)%len(l)])
		for range 20 {
			wantAsReference(t, x, l[r.IntN(len(l))])
		}
	}
}

// randomType is a valid type, or nearly one: TVoid and TFunc may stand anywhere.
func randomType(r *rand.Rand, deep int) api.T {
	switch k := 1 + r.IntN(9); {
	case k == api.TStruct || k == api.TUnion:
		return api.T{Kind: k, Name: []string{"s", "t"}[r.IntN(2)]}
	case k < api.TPtr:
		return api.T{Kind: k}
	case deep == 0:
		return int4
	case k == api.TPtr:
		return pointer(randomType(r, deep-1))
	case k == api.TArr:
		return array(1+r.IntN(3), randomType(r, deep-1))
	}
	x := function()
	for range 1 + r.IntN(7) {
		p := randomType(r, deep-1)
		if len(x.Of) > 0 && r.IntN(20) > 0 {
			p = pointer(p)
		}
		x.Of = append(x.Of, p)
	}
	return x
}

// spoilt is x with one part changed, somewhere.
func spoilt(r *rand.Rand, x api.T) api.T {
	if len(x.Of) > 0 && r.IntN(4) > 0 {
		x.Of = slices.Clone(x.Of)
		i := r.IntN(len(x.Of))
		x.Of[i] = spoilt(r, x.Of[i])
		return x
	}
	switch r.IntN(6) {
	case 0:
		x.Kind = r.IntN(12) - 1
	case 1:
		x.N += r.IntN(3) - 1
	case 2:
		x.N = []int{0, 4096, 4097, -1}[r.IntN(4)]
	case 3:
		x.Name = strings.Repeat("n", []int{0, 1, 24, 25}[r.IntN(4)])
	case 4:
		x.Of = append(slices.Clone(x.Of), randomType(r, 1))
	case 5:
		x.Of = x.Of[:len(x.Of)-min(1, len(x.Of))]
	}
	return x
}

func TestRandomTypes(t *testing.T) {
	r := rand.New(rand.NewPCG(4, 2))
	valids := 0
	for range 20000 {
		x := randomType(r, 4)
		if valid(x, 60) {
			valids++
		}
		wantAsReference(t, x, spoilt(r, x))
		wantAsReference(t, spoilt(r, x), x)
		wantAsReference(t, spoilt(r, spoilt(r, x)), x)
	}
	if valids < 2000 {
		t.Errorf("only %d valid types", valids)
	}
}
