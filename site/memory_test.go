package site_test

import (
	"math"
	"math/rand/v2"
	"reflect"
	"slices"
	"strconv"
	"sync"
	"testing"

	"crosstree/api"
	"crosstree/layout"
	"crosstree/norm"
	"crosstree/site"
)

// R2, R3, R4, R5 and P1: whose memory it is, and that every call ends.

func copyOfType(x api.T) api.T {
	x.Of = slices.Clone(x.Of)
	for i, p := range x.Of {
		x.Of[i] = copyOfType(p)
	}
	return x
}

func copyOfRecs(l []api.Rec) []api.Rec {
	l = slices.Clone(l)
	for i, r := range l {
		l[i].T, l[i].Fields = copyOfType(r.T), slices.Clone(r.Fields)
		for j, f := range r.Fields {
			l[i].Fields[j].T = copyOfType(f.T)
		}
	}
	return l
}

func copyOfSites(l []api.Site) []api.Site {
	l = slices.Clone(l)
	for i, s := range l {
		l[i].T = copyOfType(s.T)
	}
	return l
}

// spoilType overwrites all that a type holds.
func spoilType(x api.T) {
	for i := range x.Of {
		spoilType(x.Of[i])
		x.Of[i] = api.T{Kind: api.TArr, N: 77}
	}
}

func spoilArguments(recs []api.Rec, sites []api.Site) {
	for i, r := range recs {
		for j, f := range r.Fields {
			spoilType(f.T)
			r.Fields[j] = api.Field{Name: "x", T: long, Off: -9}
		}
		recs[i] = api.Rec{T: long, Size: 99}
	}
	for i, s := range sites {
		spoilType(s.T)
		sites[i] = api.Site{Kind: api.SiteHeap, Size: 64}
	}
}

func TestArgumentsAreLeftAlone(t *testing.T) {
	m := maker{rand.New(rand.NewPCG(16, 1000))}
	for range 200 {
		recs := m.records()
		var sites []api.Site
		for range m.IntN(4) {
			sites = append(sites, m.site(recs))
		}
		oldRecs, oldSites := copyOfRecs(recs), copyOfSites(sites)
		x, e := site.New(programOf(sites...), recs)
		for id := range x.Len() {
			x.Shift(id, 3)
			x.Any(id, 3)
		}
		if !reflect.DeepEqual(recs, oldRecs) || !reflect.DeepEqual(sites, oldSites) {
			t.Fatalf("%v, %v were changed to %v, %v", oldRecs, oldSites, recs, sites)
		}
		if e != api.OK {
			continue
		}
		// What becomes of them then is nothing to the table.
		spoilArguments(recs, sites)
		wantSame(t, x, oldRecs, oldSites)
	}
}

// wantSame holds that a table is still that of a program.
func wantSame(t *testing.T, x *site.Table, recs []api.Rec, sites []api.Site) {
	t.Helper()
	y := tableOf(t, recs, sites...)
	if x.Len() != y.Len() {
		t.Fatalf("Len() became %d, was %d", x.Len(), y.Len())
	}
	for id := range y.Len() {
		at, _ := y.Loc(id)
		if got, e := x.Loc(id); got != at || e != api.OK {
			t.Errorf("Loc(%d) became %v, %d", id, got, e)
		}
		wantId(t, x, at.Site, at.Off, id, api.OK)
		wantOf(t, x, at.Site, y.Of(at.Site)...)
		for _, k := range []int{-4, -1, 0, 1, 2, 8} {
			wantShift(t, x, id, k, y.Shift(id, k)...)
			wantAny(t, x, id, k, y.Any(id, k)...)
		}
	}
}

// spoil overwrites a list, and what lies behind it.
func spoil(l []int) {
	l = l[:cap(l)]
	for i := range l {
		l[i] = -7
	}
}

func someSites() []api.Site {
	return []api.Site{code(0), global(12, array(3, int4)), heap(-1), heap(9), local(6, array(6, char))}
}

func TestAnswersAreTheCallers(t *testing.T) {
	x := tableOf(t, nil, someSites()...)
	for id := range x.Len() {
		for i := range 6 {
			kept, again := x.Of(i), x.Of(i)
			want := slices.Clone(kept)
			spoil(again)
			wantOf(t, x, i, want...)
			if !slices.Equal(kept, want) {
				t.Errorf("an answer of Of became %v", kept)
			}
		}
		for _, k := range []int{0, 1, -1, 4, 8} {
			spoil(x.Shift(id, k))
			spoil(x.Any(id, k))
		}
		spoil(x.Any(id, 8192))
	}
	wantSame(t, x, nil, someSites())
}

func TestTablesAreApart(t *testing.T) {
	x := tableOf(t, nil, someSites()...)
	recs := records(t, "struct s { char a[4]; int b; };")
	tableOf(t, recs, global(8, structOf("s")), heap(2))
	// The same names, with other records.
	y := tableOf(t, records(t, "struct s { long a; };"), global(8, structOf("s")), heap(2))
	wantLocs(t, y, from(0, 8), from(0, 2))
	wantLocs(t, tableOf(t, recs, global(8, structOf("s")), heap(2)), []int{0, 4, 5, 6, 7, 8}, from(0, 2))
	wantSame(t, x, nil, someSites())
}

// A struct and a union may have one name.
func TestKindsOfRecordsAreApart(t *testing.T) {
	recs := records(t, "struct s { char a[2]; }; union s { char a[2]; };")
	for range 20 {
		wantLocs(t, tableOf(t, recs, global(2, structOf("s")), global(2, unionOf("s")), global(4, array(2, structOf("s"))), global(4, array(2, unionOf("s")))), []int{0, 2}, []int{0, 1, 2}, []int{0, 4}, []int{0, 1, 4})
	}
}

// Many may ask one table at once.
func TestManyAtOnce(t *testing.T) {
	x := tableOf(t, nil, someSites()...)
	var all sync.WaitGroup
	for range 8 {
		all.Go(func() {
			for range 20 {
				wantSame(t, x, nil, someSites())
			}
		})
	}
	all.Wait()
}

// askAll asks a table everything.
func askAll(x *site.Table) {
	ints := []int{math.MinInt, -8193, -8192, -100, -8, -1, 0, 1, 2, 7, 8, 9, 100, 4095, 4096, 4097, 8192, 8193, 1 << 32, math.MaxInt}
	for _, id := range slices.Concat(ints, []int{x.Len() - 2, x.Len() - 1, x.Len()}) {
		x.Loc(id)
		x.Of(id)
		for _, k := range ints {
			x.Id(id, k)
			x.Shift(id, k)
			x.Any(id, k)
		}
	}
}

func TestEveryCallEnds(t *testing.T) {
	var none *site.Table
	askAll(none)
	askAll(new(site.Table))
	ints := []int{math.MinInt, -1 << 32, -1, 0, 1, 4, 8, 64, 65, 4096, 4097, 1 << 32, math.MaxInt}
	for _, kind := range ints {
		for _, size := range ints {
			for _, x := range []api.T{{}, char, array(4, char), array(4096, char), array(1<<62, array(2, int4)), structOf("a"), {Kind: kind, N: size, Of: []api.T{char}}} {
				y, _ := site.New(programOf(api.Site{Kind: kind, Size: size, T: x}), nil)
				askAll(y)
			}
		}
	}
}

// Records that layout.Records doesn't return may be any.
func TestStrangeRecords(t *testing.T) {
	rec := func(x api.T, size int, fields ...api.Field) api.Rec {
		return api.Rec{T: x, Size: size, Align: 1, Fields: fields}
	}
	a, b := structOf("a"), structOf("b")
	ints := []int{0, 1, -1, 8, 4096, 4097, 1 << 62, math.MinInt, math.MaxInt}
	tables := 0
	for _, size := range ints {
		for _, off := range ints {
			field := api.Field{Name: "x", T: a, Off: off}
			for _, fields := range [][]api.Field{
				{field}, {field, field}, {{T: b, Off: off}}, {{T: array(3, char), Off: -2}}, {{T: array(2, b), Off: -off}, field}, {{T: array(3, a), Off: off}, {T: array(1<<62, b), Off: 1}}, {{T: void, Off: off}, {T: structOf("none")}},
			} {
				recs := []api.Rec{rec(a, size, fields...), rec(b, off, fields...), rec(unionOf("a"), off, field)}
				for _, x := range []api.T{a, b, unionOf("a"), array(3, a), array(4, b), array(1<<62, b), array(math.MaxInt, array(2, b))} {
					n, _, _ := layout.Size(recs, x)
					for _, s := range []api.Site{global(n, x), local(8, x), global(-off, x)} {
						if y, e := site.New(programOf(s, heap(3), s), recs); e == api.OK {
							tables++
							askAll(y)
						}
					}
				}
			}
		}
	}
	if tables < 100 {
		t.Errorf("%d tables", tables)
	}
}

// Sizes that layout.Records doesn't return may make an array have bytes though its elements have none.
func TestArraysOfNegativeSize(t *testing.T) {
	const third = -math.MaxInt/3*2 - 1 // three times this is 1, modulo 2^64
	recs := []api.Rec{{T: structOf("a"), Size: third, Align: 1}}
	n, _, e := layout.Size(recs, array(3, structOf("a")))
	x, err := site.New(programOf(global(n, array(3, structOf("a"))), heap(1)), recs)
	if n != 1 || e != api.OK || err != api.OK {
		t.Fatal(n, e, err)
	}
	askAll(x)
}

func TestTypesThatHoldThemselves(t *testing.T) {
	for _, kind := range []int{api.TArr, api.TPtr, api.TStruct, api.TFunc, 99} {
		l := make([]api.T, 1)
		l[0] = api.T{Kind: kind, N: 1, Name: "a", Of: l}
		recs := []api.Rec{{T: structOf("a"), Size: 8, Align: 1, Fields: []api.Field{{T: l[0]}, {T: array(2, l[0]), Off: 2}}}}
		for _, size := range []int{0, 8, 24} {
			for _, x := range []api.T{l[0], structOf("a"), array(3, l[0])} {
				for siteKind := range 6 {
					y, _ := site.New(programOf(api.Site{Kind: siteKind, Size: size, T: x}), recs)
					askAll(y)
				}
			}
		}
	}
}

func TestVeryManyArrays(t *testing.T) {
	x, y := array(2, int4), array(4096, char)
	for range 65000 {
		x, y = array(1, x), array(1, y)
	}
	wantLocs(t, tableOf(t, nil, global(8, x), local(4096, y), global(8, x)), []int{0, 1, 2, 3, 8}, []int{0, 4096}, []int{0, 1, 2, 3, 8})
	wantError(t, api.ErrArg, nil, global(7, x))
	wantError(t, api.ErrSize, nil, global(8, array(4096, x)))
}

// As many sites as there may be, of the greatest sizes.
func TestVeryManyBytes(t *testing.T) {
	sites := slices.Repeat([]api.Site{global(4096, array(4096, char))}, 1500)
	x := tableOf(t, nil, sites...)
	if x.Len() != 3000 {
		t.Errorf("Len() = %d", x.Len())
	}
	wantId(t, x, 1499, 4095, 2998, api.OK)
	wantId(t, x, 1499, 4096, 2999, api.OK)
	wantShift(t, x, 2998, 1, 2998, 2999)
	wantError(t, api.ErrSize, nil, slices.Repeat(sites, 40)...)
	x = tableOf(t, nil, slices.Repeat([]api.Site{heap(-1)}, 375)...)
	wantShift(t, x, 2999, 4, 2995)
}

// Many sites whose type is as many records within each other as there may be.
func TestVeryManyRecords(t *testing.T) {
	unit := api.Node{Kind: api.NodeUnit}
	x := array(4096, char)
	for i := range 64 {
		n := api.Node{Kind: api.NodeRecord, T: structOf("r" + strconv.Itoa(i)), Kids: []api.Node{{Kind: api.NodeDecl, Text: "x", T: x}}}
		x = n.T
		unit.Kids = append(unit.Kids, n)
	}
	recs, _, e := layout.Records(unit)
	if e != api.OK {
		t.Fatal(e)
	}
	sites := slices.Repeat([]api.Site{global(4096, x), local(4096, array(1, x))}, 300)
	y := tableOf(t, recs, sites...)
	if y.Len() != 1200 {
		t.Errorf("Len() = %d", y.Len())
	}
	wantShift(t, y, 1198, 4095, 1198, 1199)
}

// A union of all ids that there may be: Shift and Any of each, with what norm has for it.
func TestGreatestUnion(t *testing.T) {
	recs := records(t, "union u { char a[2999]; }; struct s { union u a; };")
	for _, x := range []api.T{unionOf("u"), structOf("s")} {
		y := tableOf(t, recs, global(2999, x))
		l, _ := norm.Offs(recs, x)
		wantLocs(t, y, l)
		for id := range y.Len() {
			wantAny(t, y, id, 1, y.Of(0)...)
			wantShift(t, y, id, 2999-id, 2999)
		}
	}
}
