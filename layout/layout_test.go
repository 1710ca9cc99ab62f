package layout_test

import (
	"math"
	"slices"
	"strconv"
	"strings"
	"testing"

	"crosstree/api"
	"crosstree/layout"
	"crosstree/parse"
)

var (
	void  = api.T{Kind: api.TVoid}
	char  = api.T{Kind: api.TChar}
	int4  = api.T{Kind: api.TInt}
	long  = api.T{Kind: api.TLong}
	aRec  = api.T{Kind: api.TStruct, Name: "s"}
	aUni  = api.T{Kind: api.TUnion, Name: "s"}
	other = api.T{Kind: api.TStruct, Name: "t"}
)

// strangeKinds are no kinds.
var strangeKinds = []int{0, -1, -5, api.TFunc + 1, 64, 256 + api.TInt, 1<<32 + api.TInt, math.MinInt, math.MaxInt}

func pointer(t api.T) api.T {
	return api.T{Kind: api.TPtr, Of: []api.T{t}}
}

func array(n int, t api.T) api.T {
	return api.T{Kind: api.TArr, N: n, Of: []api.T{t}}
}

func function(l ...api.T) api.T {
	return api.T{Kind: api.TFunc, Of: l}
}

// recordNode is a NodeRecord whose fields are a0, a1 and on.
func recordNode(t api.T, fields ...api.T) api.Node {
	n := api.Node{Kind: api.NodeRecord, T: t}
	for i, f := range fields {
		n.Kids = append(n.Kids, api.Node{Kind: api.NodeDecl, Text: "a" + strconv.Itoa(i), T: f})
	}
	return n
}

func unit(l ...api.Node) api.Node {
	return api.Node{Kind: api.NodeUnit, Kids: l}
}

// withRooms gives the record s that many bytes, as some records that nothing has laid out.
func withRooms(size, align int) []api.Rec {
	return []api.Rec{{T: aRec, Size: size, Align: align}}
}

func wantSize(t *testing.T, recs []api.Rec, x api.T, size, align int, e api.Errno) {
	t.Helper()
	if s, a, err := layout.Size(recs, x); s != size || a != align || err != e {
		t.Errorf("Size(%v) = %d, %d, %d, want %d, %d, %d", text(x), s, a, err, size, align, e)
	}
}

// wantNoSize is for types without a size, and without an alignment then.
func wantNoSize(t *testing.T, recs []api.Rec, x api.T, e api.Errno) {
	t.Helper()
	wantSize(t, recs, x, 0, 0, e)
}

func wantWrong(t *testing.T, n api.Node, at int, e api.Errno) {
	t.Helper()
	if l, i, err := layout.Records(n); len(l) != 0 || i != at || err != e {
		t.Errorf("Records returns %d records, %d, %d, want %d, %d", len(l), i, err, at, e)
	}
}

func wantRecords(t *testing.T, n api.Node) []api.Rec {
	t.Helper()
	l, i, e := layout.Records(n)
	if i != 0 || e != api.OK {
		t.Errorf("Records returns %d, %d, want 0 and OK", i, e)
	}
	return l
}

// wantLaid checks a record: its size, its alignment, the offsets of its fields.
func wantLaid(t *testing.T, r api.Rec, size, align int, offs ...int) {
	t.Helper()
	var l []int
	for _, f := range r.Fields {
		l = append(l, f.Off)
	}
	if r.Size != size || r.Align != align || !slices.Equal(l, offs) {
		t.Errorf("%s has the size %d, the alignment %d and the offsets %v, want %d, %d, %v", text(r.T), r.Size, r.Align, l, size, align, offs)
	}
}

func parsed(t *testing.T, s string) api.Node {
	t.Helper()
	n, at, e := parse.Parse(s)
	if e != api.OK {
		t.Fatalf("%.200s: %d at %d", s, e, at)
	}
	return n
}

// P5.1.

func TestSizesOfScalars(t *testing.T) {
	widths := map[int]int{api.TChar: 1, api.TInt: 4, api.TLong: 8, api.TPtr: 8}
	for k, w := range widths {
		for _, x := range []api.T{{Kind: k}, {Kind: k, N: -7, Name: "s", Of: []api.T{void, {}}}, {Kind: k, Of: []api.T{aRec}}} {
			wantSize(t, nil, x, w, w, api.OK)
			wantSize(t, withRooms(3, 1), x, w, w, api.OK)
		}
	}
	wantSize(t, nil, pointer(function(void)), 8, 8, api.OK)
	wantSize(t, nil, pointer(array(4096, array(4096, other))), 8, 8, api.OK)
}

func TestTypesWithoutASize(t *testing.T) {
	l := []api.T{void, function(int4), function(), {Kind: api.TVoid, N: 3, Name: "s", Of: []api.T{int4}}}
	for _, k := range strangeKinds {
		l = append(l, api.T{Kind: k}, api.T{Kind: k, Name: "s"}, api.T{Kind: k, N: 1, Of: []api.T{int4}})
	}
	for _, x := range l {
		// A record of such a type's kind and name isn't its record.
		recs := []api.Rec{{T: x, Size: 8, Align: 8}, {T: aRec, Size: 8, Align: 8}}
		wantNoSize(t, recs, x, api.ErrType)
		wantNoSize(t, recs, array(1, x), api.ErrType)
		wantNoSize(t, recs, array(4097, array(2, x)), api.ErrType)
	}
}

func TestSizesOfRecords(t *testing.T) {
	recs := []api.Rec{
		{T: api.T{Kind: api.TInt, Name: "s"}, Size: 99, Align: 99},
		{T: aUni, Size: 5, Align: 2},
		{T: aRec, Size: 12, Align: 4},
		{T: aRec, Size: 16, Align: 8},
		{T: api.T{Kind: api.TStruct}, Size: 7, Align: 3},
	}
	wantSize(t, recs, aRec, 12, 4, api.OK)
	wantSize(t, recs, aUni, 5, 2, api.OK)
	wantSize(t, recs, api.T{Kind: api.TStruct}, 7, 3, api.OK)
	wantSize(t, recs, api.T{Kind: api.TStruct, Name: "s", N: 9, Of: []api.T{int4}}, 12, 4, api.OK)
	wantSize(t, []api.Rec{{T: api.T{Kind: api.TStruct, Name: "s", N: 9, Of: []api.T{int4}}, Size: 3, Align: 1}}, aRec, 3, 1, api.OK)
	for _, x := range []api.T{other, {Kind: api.TStruct, Name: "S"}, {Kind: api.TStruct, Name: "ss"}, {Kind: api.TUnion}, {Kind: api.TUnion, Name: "t"}} {
		wantNoSize(t, recs, x, api.ErrNone)
		wantNoSize(t, recs, array(3, x), api.ErrNone)
	}
	wantNoSize(t, nil, aRec, api.ErrNone)
	for _, size := range []int{0, -1, 4097, math.MinInt, math.MaxInt} { // they stand as they are
		wantSize(t, withRooms(size, -size), aRec, size, -size, api.OK)
	}
}

func TestSizesOfArrays(t *testing.T) {
	recs := withRooms(12, 4)
	wantSize(t, recs, array(3, int4), 12, 4, api.OK)
	wantSize(t, recs, array(1, char), 1, 1, api.OK)
	wantSize(t, recs, array(3, pointer(void)), 24, 8, api.OK)
	wantSize(t, recs, array(3, aRec), 36, 4, api.OK)
	wantSize(t, recs, array(3, array(5, array(2, int4))), 120, 4, api.OK)
	wantSize(t, recs, array(3, array(5, array(2, aRec))), 360, 4, api.OK)
	wantSize(t, recs, api.T{Kind: api.TArr, N: 2, Name: "n", Of: []api.T{long}}, 16, 8, api.OK)
}

func TestArraysThatAreNone(t *testing.T) {
	l := []api.T{{Kind: api.TArr}, {Kind: api.TArr, N: 3}, {Kind: api.TArr, N: 3, Of: []api.T{}}, {Kind: api.TArr, N: 3, Of: []api.T{int4, int4}}, {Kind: api.TArr, N: 3, Of: []api.T{int4, void, long}}}
	for _, n := range []int{0, -1, -3, math.MinInt} {
		l = append(l, array(n, int4), array(n, other), array(n, array(5000, char)))
	}
	for _, x := range l {
		wantNoSize(t, nil, x, api.ErrType)
		wantNoSize(t, nil, array(3, x), api.ErrType)
		wantNoSize(t, nil, array(5000, array(1, x)), api.ErrType)
	}
}

func TestGreatestArrays(t *testing.T) {
	for size := 1; size <= 8; size *= 2 {
		x := map[int]api.T{1: char, 2: aRec, 4: int4, 8: pointer(void)}[size]
		recs := withRooms(2, size)
		most := 4096 / size
		wantSize(t, recs, array(most, x), 4096, size, api.OK)
		wantSize(t, recs, array(most/4, array(4, x)), 4096, size, api.OK)
		wantNoSize(t, recs, array(most/4, array(5, x)), api.ErrSize)
		wantNoSize(t, recs, array(1, array(most+1, x)), api.ErrSize)
		for _, n := range []int{most + 1, 5000, 1 << 31, 1 << 32, 1<<62 + 1, 1 << 61, 1 << 62, math.MaxInt} {
			wantNoSize(t, recs, array(n, x), api.ErrSize)
			wantNoSize(t, recs, array(n, array(n, x)), api.ErrSize)
		}
	}
	wantSize(t, withRooms(1365, 1), array(3, aRec), 4095, 1, api.OK)
	wantNoSize(t, withRooms(1366, 1), array(3, aRec), api.ErrSize)
}

// Records that Records doesn't return may have any sizes.
func TestArraysOfStrangeRecords(t *testing.T) {
	for _, n := range []int{1, 7, 4096, 4097, 1 << 40, math.MaxInt} {
		wantSize(t, withRooms(0, 1), array(n, aRec), 0, 1, api.OK)
		wantSize(t, withRooms(0, 1), array(n, array(n, aRec)), 0, 1, api.OK)
		for _, size := range []int{4097, 1 << 32, 1 << 40, 1 << 62, math.MaxInt} {
			wantNoSize(t, withRooms(size, 1), array(n, aRec), api.ErrSize)
			wantNoSize(t, withRooms(size, 1), array(n, array(n, aRec)), api.ErrSize)
		}
	}
	wantSize(t, withRooms(-5, -3), array(1000, array(3, aRec)), -15000, -3, api.OK)
	wantSize(t, withRooms(4096, 0), array(1, aRec), 4096, 0, api.OK)
}

// P5.2.

// The chapter's examples.
func TestExamples(t *testing.T) {
	l := wantRecords(t, parsed(t, "struct s { char a; int b; char c; }; union u { char a[5]; int b; };"))
	wantLaid(t, l[0], 12, 4, 0, 4, 8)
	wantLaid(t, l[1], 8, 4, 0, 0)
	wantWrong(t, parsed(t, "struct t { struct t x; };"), 0, api.ErrNone)
}

func TestOffsets(t *testing.T) {
	l := wantRecords(t, parsed(t, `
struct a { };
union b { };
struct c { char x; struct a y; char z; struct a v; };
struct d { char x; long y; char z; };
struct e { char x[3]; struct d y[2]; char z; int v; };
union f { struct e x; char y[81]; };
struct g { char x[9]; union b y; struct c z; union f v; };
struct h { char x; char y; int *z; char (*v)(long, char); char w[2][3]; };
union i { struct c x; char y; };
struct j { char x; union i y[2]; char z; int v[3]; char w; };`))
	wantLaid(t, l[0], 0, 1)
	wantLaid(t, l[1], 0, 1)
	wantLaid(t, l[2], 2, 1, 0, 1, 1, 2)
	wantLaid(t, l[3], 24, 8, 0, 8, 16)
	wantLaid(t, l[4], 64, 8, 0, 8, 56, 60)
	wantLaid(t, l[5], 88, 8, 0, 0)
	wantLaid(t, l[6], 104, 8, 0, 9, 9, 16)
	wantLaid(t, l[7], 32, 8, 0, 1, 8, 16, 24)
	wantLaid(t, l[8], 2, 1, 0, 0)
	wantLaid(t, l[9], 24, 4, 0, 1, 5, 8, 20)
}

func TestWhatARecordHas(t *testing.T) {
	l := wantRecords(t, parsed(t, "int g; struct s { char a; int *b[2]; }; int main() { return 0; } union s { struct s *next; union s (*f)(int, union s *); }; int h;"))
	link := pointer(function(aUni, int4, pointer(aUni)))
	want := []api.Rec{
		{T: aRec, Size: 24, Align: 8, Fields: []api.Field{{Name: "a", T: char}, {Name: "b", T: array(2, pointer(int4)), Off: 8}}},
		{T: aUni, Size: 8, Align: 8, Fields: []api.Field{{Name: "next", T: pointer(aRec)}, {Name: "f", T: link}}},
	}
	if !slices.EqualFunc(l, want, sameRec) {
		t.Errorf("the records are %v, want %v", l, want)
	}
}

func TestUnitsWithoutRecords(t *testing.T) {
	inside := api.Node{Kind: api.NodeFunc, Kids: []api.Node{recordNode(aRec, void)}} // is no item of the unit
	for _, n := range []api.Node{{}, unit(), parsed(t, ""), parsed(t, "int g; struct s *p; struct s f(void a) { return; }"), unit(inside)} {
		if l := wantRecords(t, n); len(l) != 0 {
			t.Errorf("%d records where there are none", len(l))
		}
	}
}

// The index is that among the NodeRecords.
func TestFirstWrongRecord(t *testing.T) {
	wantWrong(t, parsed(t, "int g; struct a { }; int h; struct b { int x; int x; }; struct c { struct c x; };"), 1, api.ErrType)
	wantWrong(t, parsed(t, "struct a { }; int f() { } union b { }; struct c { struct d x; }; struct c { }; struct d { void x; };"), 2, api.ErrNone)
}

func TestNumberOfRecords(t *testing.T) {
	var l []api.Node
	for i := range 70 {
		l = append(l, api.Node{Kind: api.NodeGlobal, Text: "g", T: void}, recordNode(api.T{Kind: api.TStruct + i%2, Name: "r" + strconv.Itoa(i/2)}, int4))
	}
	if r := wantRecords(t, unit(l[:128]...)); len(r) != 64 {
		t.Errorf("%d records of 64", len(r))
	}
	wantRecords(t, unit(l[:129]...))
	wantWrong(t, unit(l[:130]...), 64, api.ErrSize)
	wantWrong(t, unit(l...), 64, api.ErrSize)
	l[129] = recordNode(api.T{Kind: api.TStruct, Name: "r0"}, void) // ahead of its other errors
	wantWrong(t, unit(l...), 64, api.ErrSize)
	l[127] = l[1]
	wantWrong(t, unit(l...), 63, api.ErrType)
}

func TestRecordsOfTheSameName(t *testing.T) {
	wantWrong(t, parsed(t, "struct a { }; struct b { }; struct a { };"), 2, api.ErrType)
	wantWrong(t, parsed(t, "union a { }; struct b { }; union a { int x; };"), 2, api.ErrType)
	wantRecords(t, parsed(t, "struct a { }; union a { struct a x; }; struct b { union a x; }; union b { int a; }; struct A { };"))
	many := recordNode(aRec, slices.Repeat([]api.T{other}, 40)...)
	wantWrong(t, unit(recordNode(aRec), many), 1, api.ErrType) // ahead of its other errors
	more := api.T{Kind: api.TStruct, Name: "s", N: 1, Of: []api.T{int4}}
	wantWrong(t, unit(recordNode(more), recordNode(aRec)), 1, api.ErrType)
	wantWrong(t, unit(recordNode(aRec), recordNode(more)), 1, api.ErrType)
	wantWrong(t, unit(recordNode(api.T{Kind: api.TUnion}), recordNode(api.T{Kind: api.TStruct}), recordNode(api.T{Kind: api.TUnion})), 2, api.ErrType)
}

// A NodeRecord may have any T: its fields lie as a union's then, and no type has it as its record.
func TestRecordsOfOtherTypes(t *testing.T) {
	for _, x := range []api.T{{}, int4, {Kind: api.TFunc, Name: "s"}, pointer(aRec), array(3, int4), {Kind: 99, N: 5, Name: "s", Of: []api.T{int4, long}}} {
		l := wantRecords(t, unit(recordNode(x, char, long, int4), recordNode(x, char), recordNode(x), recordNode(aRec, char, int4)))
		wantLaid(t, l[0], 8, 8, 0, 0, 0)
		wantLaid(t, l[1], 1, 1, 0)
		wantLaid(t, l[2], 0, 1)
		wantLaid(t, l[3], 8, 4, 0, 4)
		if !same(l[0].T, x) || !same(l[2].T, x) {
			t.Errorf("the record of %v has the type %v", text(x), text(l[0].T))
		}
		if _, e := layout.Find(l, x, "a0"); e != api.ErrNone {
			t.Errorf("Find of %v: %d", text(x), e)
		}
		wantWrong(t, unit(recordNode(x, int4), recordNode(x, void)), 1, api.ErrType)
	}
}

func TestNumberOfFields(t *testing.T) {
	for _, rec := range []api.T{aRec, aUni} {
		n := recordNode(rec, slices.Repeat([]api.T{int4}, 32)...)
		l := wantRecords(t, unit(n))
		wantLaid(t, l[0], map[int]int{api.TStruct: 128, api.TUnion: 4}[rec.Kind], 4, offsets(l[0])...)
		if len(l[0].Fields) != 32 {
			t.Errorf("%d fields of 32", len(l[0].Fields))
		}
		for _, last := range []api.Node{{Text: "b", T: int4}, {Text: "a0", T: int4}, {Text: "b", T: void}, {Text: "b", T: other}, {Text: "b", T: array(4096, long)}} {
			wantWrong(t, unit(recordNode(other), api.Node{Kind: api.NodeRecord, T: rec, Kids: append(slices.Clone(n.Kids), last)}), 1, api.ErrSize)
		}
		n = recordNode(rec, slices.Repeat([]api.T{int4}, 50)...)
		n.Kids[31].T = void // a field's error, ahead of the next field's
		wantWrong(t, unit(n), 0, api.ErrType)
		n.Kids[31].T, n.Kids[5].T = int4, other
		wantWrong(t, unit(n), 0, api.ErrNone)
		n.Kids[5].T, n.Kids[31].Text = int4, "a30"
		wantWrong(t, unit(n), 0, api.ErrType)
	}
}

func TestFieldsOfTheSameName(t *testing.T) {
	wantWrong(t, parsed(t, "struct a { int x; int y; char x; };"), 0, api.ErrType)
	wantWrong(t, parsed(t, "union a { int x; int y; int y; };"), 0, api.ErrType)
	wantWrong(t, parsed(t, "struct a { int x; struct b x; };"), 0, api.ErrType) // ahead of its type's error
	wantWrong(t, parsed(t, "struct a { int x; struct b y; int x; };"), 0, api.ErrNone)
	wantRecords(t, parsed(t, "struct a { int x; int X; int xx; int a; }; struct b { int x; struct a y; };"))
	for _, name := range []string{"", " ", strings.Repeat("n", 1000)} {
		n := recordNode(aRec, int4, long, char)
		n.Kids[2].Text = name
		l := wantRecords(t, unit(n))
		if l[0].Fields[2].Name != name {
			t.Errorf("the field %q has the name %q", name, l[0].Fields[2].Name)
		}
		n.Kids[0].Text = name
		wantWrong(t, unit(n), 0, api.ErrType)
	}
}

func TestTypesOfFields(t *testing.T) {
	deep := int4
	for range 59 {
		deep = pointer(deep)
	}
	valid := []api.T{char, int4, long, pointer(void), pointer(aRec), pointer(other), pointer(function(aUni, pointer(other))), array(2, pointer(other)), array(4096, char), deep}
	invalid := map[api.Errno][]api.T{
		api.ErrType: {void, function(int4), {}, {Kind: 99}, {Kind: api.TInt, N: 1}, {Kind: api.TLong, Name: "x"}, {Kind: api.TChar, Of: []api.T{int4}}, {Kind: api.TPtr}, pointer(array(2, void)), pointer(array(0, int4)), array(0, int4), array(-1, other), array(4097, char), array(4097, other), array(2, void), array(2, function(int4)), pointer(deep), {Kind: api.TStruct, Name: strings.Repeat("n", 25)}, {Kind: api.TStruct}, {Kind: api.TStruct, Name: "e", N: 1}, pointer(function(aRec, other))},
		api.ErrNone: {aRec, other, aUni, {Kind: api.TUnion, Name: "e"}, array(2, aRec), array(4096, array(4096, aRec))},
		api.ErrSize: {array(513, long), array(4096, int4), array(65, array(64, char)), array(4096, array(4096, char)), array(4096, array(4096, pointer(aRec)))},
	}
	empty := recordNode(api.T{Kind: api.TStruct, Name: "e"})
	later := recordNode(other, int4)
	for _, x := range valid {
		wantRecords(t, unit(empty, recordNode(aRec, x), later))
		wantRecords(t, unit(empty, recordNode(aUni, int4, x), later))
	}
	for e, l := range invalid {
		for _, x := range l {
			wantWrong(t, unit(empty, recordNode(aRec, x), later), 1, e)
			if x.Kind != api.TArr || e != api.ErrNone {
				wantWrong(t, unit(empty, recordNode(aRec, int4, x, void), later), 1, e)
			}
			wantWrong(t, unit(empty, recordNode(api.T{Kind: api.TUnion, Name: "u"}, int4, x), later), 1, e)
		}
	}
}

// An empty record may be an element: then there may be any number of them.
func TestFieldsWithoutBytes(t *testing.T) {
	empty := api.T{Kind: api.TStruct, Name: "e"}
	l := wantRecords(t, unit(recordNode(empty), recordNode(aRec, char, array(4096, array(4096, empty)), int4, empty)))
	wantLaid(t, l[1], 8, 4, 0, 1, 4, 8)
}

func TestGreatestRecords(t *testing.T) {
	wantLaid(t, wantRecords(t, parsed(t, "struct a { char x[4095]; char y; };"))[0], 4096, 1, 0, 4095)
	wantLaid(t, wantRecords(t, parsed(t, "struct a { char x; int y[1023]; };"))[0], 4096, 4, 0, 4)
	wantLaid(t, wantRecords(t, parsed(t, "struct a { long x; char y[4081]; };"))[0], 4096, 8, 0, 8)
	wantLaid(t, wantRecords(t, parsed(t, "union a { char x[4096]; long y[512]; };"))[0], 4096, 8, 0, 0)
	wantLaid(t, wantRecords(t, parsed(t, "union a { char x[4089]; long y; };"))[0], 4096, 8, 0, 0)
	wantWrong(t, parsed(t, "struct b { }; struct a { char x[4096]; char y; };"), 1, api.ErrSize)
	wantWrong(t, parsed(t, "struct a { char x; int y[1024]; };"), 0, api.ErrSize)
	wantWrong(t, parsed(t, "struct a { char x; int y[1023]; char z; };"), 0, api.ErrSize)
	wantWrong(t, parsed(t, "struct a { char x[4096]; char y[4096]; char z[4096]; void v; };"), 0, api.ErrType) // a field's error, ahead of the size
	wantWrong(t, parsed(t, "struct a { char x[2048]; }; struct b { struct a x[2]; }; struct c { struct b x[2]; };"), 2, api.ErrSize)
	many := recordNode(aRec, slices.Repeat([]api.T{array(4096, char)}, 32)...)
	wantWrong(t, unit(many), 0, api.ErrSize)
	many.T = aUni
	wantLaid(t, wantRecords(t, unit(many))[0], 4096, 1, make([]int, 32)...)
}

// The node of a field is its name and its type.
func TestFieldsAreAnyKids(t *testing.T) {
	n := recordNode(aRec, char, int4)
	n.Text, n.N = "x", 7
	n.Kids[1].Kind, n.Kids[1].N, n.Kids[1].Kids = 0, 9, []api.Node{{Kind: api.NodeNumber, T: void}}
	wantLaid(t, wantRecords(t, unit(n))[0], 8, 4, 0, 4)
}

// P5.3.

func wantField(t *testing.T, recs []api.Rec, x api.T, name string, want api.Field) {
	t.Helper()
	if f, e := layout.Find(recs, x, name); !sameField(f, want) || e != api.OK {
		t.Errorf("Find(%v, %q) = %v, %d, want %v", text(x), name, f, e, want)
	}
}

func wantNoField(t *testing.T, recs []api.Rec, x api.T, name string) {
	t.Helper()
	if f, e := layout.Find(recs, x, name); !sameField(f, api.Field{}) || e != api.ErrNone {
		t.Errorf("Find(%v, %q) = %v, %d, want ErrNone", text(x), name, f, e)
	}
}

func TestFind(t *testing.T) {
	l := wantRecords(t, parsed(t, "struct s { char a; int b[2]; }; union s { long a; struct s c; }; struct t { };"))
	wantField(t, l, aRec, "a", api.Field{Name: "a", T: char})
	wantField(t, l, aRec, "b", api.Field{Name: "b", T: array(2, int4), Off: 4})
	wantField(t, l, aUni, "a", api.Field{Name: "a", T: long})
	wantField(t, l, aUni, "c", api.Field{Name: "c", T: aRec})
	wantField(t, l, api.T{Kind: api.TStruct, Name: "s", N: 3, Of: []api.T{int4}}, "a", api.Field{Name: "a", T: char})
	for _, x := range []struct {
		t    api.T
		name string
	}{
		{aRec, "c"}, {aRec, ""}, {aRec, "A"}, {aRec, "aa"}, {aUni, "b"}, {other, "a"}, {other, ""},
		{api.T{Kind: api.TUnion, Name: "t"}, "a"}, {api.T{Kind: api.TStruct, Name: "u"}, "a"}, {api.T{Kind: api.TStruct}, "a"},
		{pointer(aRec), "a"}, {array(1, aRec), "a"}, {function(aRec), "a"}, {api.T{Kind: api.TInt, Name: "s"}, "a"}, {api.T{Name: "s"}, "a"}, {api.T{Kind: 99, Name: "s"}, "a"}, {api.T{}, ""},
	} {
		wantNoField(t, l, x.t, x.name)
		wantNoField(t, nil, x.t, x.name)
	}
}

// Records that Records doesn't return may have the same names, and fields of the same names.
func TestFindTheFirst(t *testing.T) {
	field := func(off int, name string) api.Field {
		return api.Field{Name: name, T: array(off, int4), Off: off}
	}
	recs := []api.Rec{
		{T: api.T{Kind: api.TInt, Name: "s"}, Fields: []api.Field{field(1, "a")}},
		{T: other, Fields: []api.Field{field(2, "a")}},
		{T: aRec, Fields: []api.Field{field(3, "b"), field(-4, ""), field(5, "b")}},
		{T: aRec, Fields: []api.Field{field(6, "a"), field(7, "b")}},
	}
	wantField(t, recs, aRec, "b", field(3, "b"))
	wantField(t, recs, aRec, "", field(-4, ""))
	wantField(t, recs, other, "a", field(2, "a"))
	wantNoField(t, recs, aRec, "a") // the second record of that name isn't the record of the type
	wantNoField(t, recs, api.T{Kind: api.TInt, Name: "s"}, "a")
}
