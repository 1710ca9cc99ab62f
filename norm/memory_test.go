package norm_test

import (
	"math"
	"math/rand/v2"
	"reflect"
	"slices"
	"strconv"
	"testing"

	"crosstree/api"
	"crosstree/layout"
	"crosstree/norm"
)

// R2, R3 and P1: whose memory it is, and that every call ends.

func copyOfType(x api.T) api.T {
	x.Of = slices.Clone(x.Of)
	for i, p := range x.Of {
		x.Of[i] = copyOfType(p)
	}
	return x
}

func copyOfRecs(l []api.Rec) []api.Rec {
	l = slices.Clone(l)
	for i, r := range l {
		l[i].T, l[i].Fields = copyOfType(r.T), slices.Clone(r.Fields)
		for j, f := range r.Fields {
			l[i].Fields[j].T = copyOfType(f.T)
		}
	}
	return l
}

func TestArgumentsAreLeftAlone(t *testing.T) {
	m := maker{rand.New(rand.NewPCG(6, 2))}
	for range 300 {
		recs, x := m.records(), m.typ()
		before, y := copyOfRecs(recs), copyOfType(x)
		norm.Offs(recs, x)
		for off := -1; off < 20; off++ {
			norm.Norm(recs, x, off)
			norm.Class(recs, x, off)
		}
		if !reflect.DeepEqual(recs, before) || !reflect.DeepEqual(x, y) {
			t.Fatalf("%v, %v were changed to %v, %v", before, y, recs, x)
		}
	}
}

func TestAnswersAreTheCallers(t *testing.T) {
	recs := records(t, manyRecords)
	for range 3 {
		for _, x := range []api.T{structOf("n"), array(3, int4), unionOf("u")} {
			a, _ := norm.Offs(recs, x)
			b, _ := norm.Class(recs, x, 1)
			c, _ := norm.Class(recs, x, 1)
			want := slices.Clone(c)
			for _, l := range [][]int{a, b} {
				l = l[:cap(l)]
				for i := range l {
					l[i] = 77
				}
			}
			if !slices.Equal(c, want) {
				t.Errorf("a class is %v when other answers are overwritten", c)
			}
			wantAsReference(t, recs, x)
		}
	}
}

func TestNilAndEmptyLists(t *testing.T) {
	for _, recs := range [][]api.Rec{nil, {}} {
		wantAll(t, recs, array(2, char), []int{0, 0, 2})
		wantAll(t, recs, api.T{Kind: api.TInt, Of: []api.T{}}, upTo(4))
		wantWrong(t, recs, structOf("a"), 0, api.ErrNone)
		wantWrong(t, recs, api.T{Kind: api.TArr, N: 1, Of: []api.T{}}, 0, api.ErrType)
	}
}

// callAll calls everything.
func callAll(t *testing.T, recs []api.Rec, x api.T) {
	for _, off := range []int{0, 1, 7, 8, -1, 4096, 5000, 1 << 32, math.MinInt, math.MaxInt} {
		to, e := norm.Norm(recs, x, off)
		l, err := norm.Class(recs, x, off)
		if e != err || e != api.OK && (to != 0 || len(l) != 0) {
			t.Errorf("Norm returns %d, %d and Class %v, %d", to, e, l, err)
		}
	}
	if l, e := norm.Offs(recs, x); e != api.OK && len(l) != 0 {
		t.Errorf("Offs returns %v, %d", l, e)
	}
}

// Records that layout.Records doesn't return may be any.
func TestStrangeRecords(t *testing.T) {
	rec := func(x api.T, size int, fields ...api.Field) api.Rec {
		return api.Rec{T: x, Size: size, Align: 1, Fields: fields}
	}
	a, b := structOf("a"), structOf("b")
	ints := []int{0, 1, -1, 8, 4096, 4097, 1 << 62, math.MinInt, math.MaxInt}
	for _, size := range ints {
		for _, off := range ints {
			field := api.Field{Name: "x", T: a, Off: off}
			for _, fields := range [][]api.Field{
				{field}, {field, field}, {{T: b, Off: off}}, {{T: array(2, b), Off: -off}, field}, {{T: array(3, a), Off: off}, {T: array(1<<62, b), Off: 1}}, {{T: void, Off: off}, {T: structOf("none")}, {T: array(0, a)}}, {{T: structOf("e"), Off: off}, {T: array(2, structOf("e")), Off: off}},
			} {
				recs := []api.Rec{rec(a, size, fields...), rec(b, off, fields...), rec(int4, size, field), rec(structOf("e"), 0, fields...)}
				for _, x := range []api.T{a, array(3, a), array(1<<62, b), array(math.MaxInt, array(2, b))} {
					callAll(t, recs, x)
				}
			}
		}
	}
}

func TestRandomStrangeRecords(t *testing.T) {
	m := maker{rand.New(rand.NewPCG(6, 3))}
	for range 1000 {
		recs := m.records()
		for range 1 + m.IntN(4) {
			if len(recs) == 0 {
				break
			}
			r := &recs[m.IntN(len(recs))]
			r.Size = m.IntN(100) - 10
			if len(r.Fields) > 0 {
				r.Fields[m.IntN(len(r.Fields))] = api.Field{Name: "f0", T: m.typ(), Off: m.IntN(30) - 10}
			}
		}
		callAll(t, recs, m.typ())
		callAll(t, recs, m.record())
	}
}

// Such records have no size that layout.Records returns: their offsets are too many to be enumerated.
func TestTooGreatRecords(t *testing.T) {
	for _, size := range []int{4097, 5000, 1 << 40, math.MaxInt} {
		recs := []api.Rec{{T: structOf("a"), Size: size, Align: 1}}
		wantWrong(t, recs, structOf("a"), 0, api.ErrSize)
		wantWrong(t, recs, structOf("a"), -1, api.ErrSize)
	}
}

func TestTypesThatHoldThemselves(t *testing.T) {
	for _, kind := range []int{api.TArr, api.TPtr, api.TStruct, api.TFunc, 99} {
		l := make([]api.T, 1)
		l[0] = api.T{Kind: kind, N: 1, Name: "a", Of: l}
		x := l[0]
		recs := []api.Rec{{T: structOf("a"), Size: 8, Align: 1, Fields: []api.Field{{T: x}, {T: array(2, x), Off: 2}}}}
		callAll(t, recs, x)
		callAll(t, recs, structOf("a"))
		callAll(t, recs, array(3, x))
	}
}

func TestVeryManyArrays(t *testing.T) {
	x, y := array(2, int4), array(4096, char)
	for range 65000 {
		x, y = array(1, x), array(1, y)
	}
	wantAll(t, nil, x, []int{0, 1, 2, 3, 0, 1, 2, 3, 8})
	wantOffs(t, nil, y, api.OK, 0, 4096)
	wantClass(t, nil, y, 0, api.OK, upTo(4095)...)
}

// The greatest number of fields in the greatest number of records, each within the next.
func TestVeryManyFields(t *testing.T) {
	unit := api.Node{Kind: api.NodeUnit}
	for i := range 64 {
		n := api.Node{Kind: api.NodeRecord, T: structOf("r" + strconv.Itoa(i))}
		x := array(2048, char)
		if i > 0 {
			x = structOf("r" + strconv.Itoa(i-1))
		}
		for j := range 31 {
			n.Kids = append(n.Kids, api.Node{Kind: api.NodeDecl, Text: "f" + strconv.Itoa(j), T: char})
		}
		at := []int{0, 15, 31}[i%3]
		n.Kids = slices.Insert(n.Kids, at, api.Node{Kind: api.NodeDecl, Text: "x", T: x})
		unit.Kids = append(unit.Kids, n)
	}
	recs, _, e := layout.Records(unit)
	if e != api.OK {
		t.Fatal(e)
	}
	for _, off := range []int{0, 15, 30, 1000, 3000, sizeOf(recs, structOf("r63"))} {
		wantNorm(t, recs, structOf("r63"), off, normal(recs, structOf("r63"), off), api.OK)
	}
	if l, e := norm.Offs(recs, structOf("r63")); len(l) != 63*31+32+1 || e != api.OK {
		t.Errorf("Offs has %d offsets, %d", len(l), e)
	}
}
