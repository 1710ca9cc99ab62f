package norm_test

import (
	"math"
	"slices"
	"strconv"
	"strings"
	"testing"

	"crosstree/api"
	"crosstree/layout"
	"crosstree/norm"
	"crosstree/parse"
)

var (
	void = api.T{Kind: api.TVoid}
	char = api.T{Kind: api.TChar}
	int4 = api.T{Kind: api.TInt}
	long = api.T{Kind: api.TLong}
)

func structOf(name string) api.T {
	return api.T{Kind: api.TStruct, Name: name}
}

func unionOf(name string) api.T {
	return api.T{Kind: api.TUnion, Name: name}
}

func pointer(t api.T) api.T {
	return api.T{Kind: api.TPtr, Of: []api.T{t}}
}

func array(n int, t api.T) api.T {
	return api.T{Kind: api.TArr, N: n, Of: []api.T{t}}
}

func function(l ...api.T) api.T {
	return api.T{Kind: api.TFunc, Of: l}
}

// records are those of a source.
func records(t *testing.T, s string) []api.Rec {
	t.Helper()
	n, at, e := parse.Parse(s)
	if e != api.OK {
		t.Fatalf("%.200s: %d at %d", s, e, at)
	}
	recs, i, e := layout.Records(n)
	if e != api.OK {
		t.Fatalf("%.200s: %d at the record %d", s, e, i)
	}
	return recs
}

func wantNorm(t *testing.T, recs []api.Rec, x api.T, off, want int, e api.Errno) {
	t.Helper()
	if got, err := norm.Norm(recs, x, off); got != want || err != e {
		t.Errorf("Norm(%v, %d) = %d, %d, want %d, %d", x, off, got, err, want, e)
	}
}

func wantOffs(t *testing.T, recs []api.Rec, x api.T, e api.Errno, want ...int) {
	t.Helper()
	if got, err := norm.Offs(recs, x); !slices.Equal(got, want) || err != e {
		t.Errorf("Offs(%v) = %v, %d, want %v, %d", x, got, err, want, e)
	}
}

func wantClass(t *testing.T, recs []api.Rec, x api.T, off int, e api.Errno, want ...int) {
	t.Helper()
	if got, err := norm.Class(recs, x, off); !slices.Equal(got, want) || err != e {
		t.Errorf("Class(%v, %d) = %v, %d, want %v, %d", x, off, got, err, want, e)
	}
}

// wantWrong is for arguments that all three functions answer with one error, Offs too if the type alone is wrong.
func wantWrong(t *testing.T, recs []api.Rec, x api.T, off int, e api.Errno) {
	t.Helper()
	wantNorm(t, recs, x, off, 0, e)
	wantClass(t, recs, x, off, e)
	if e != api.ErrRange {
		wantOffs(t, recs, x, e)
	}
}

// wantAll checks all functions: normals are the normal offsets of 0 and on, up to the end.
func wantAll(t *testing.T, recs []api.Rec, x api.T, normals []int) {
	t.Helper()
	classes := make([][]int, len(normals))
	var own []int
	for off, to := range normals {
		classes[to] = append(classes[to], off)
		if off == to {
			own = append(own, off)
		}
		wantNorm(t, recs, x, off, to, api.OK)
	}
	n := len(normals) - 1
	for off := 0; off < n; off += 1 + n/50 { // all classes, if they are few
		wantClass(t, recs, x, off, api.OK, classes[normals[off]]...)
	}
	wantClass(t, recs, x, n, api.OK, n)
	wantOffs(t, recs, x, api.OK, own...)
	for _, off := range []int{-1, -2, -len(normals), len(normals), len(normals) + 1, 4097, 1 << 32, math.MinInt, math.MaxInt} {
		wantWrong(t, recs, x, off, api.ErrRange)
	}
}

// The chapter's examples.
func TestExamples(t *testing.T) {
	x := array(3, int4)
	wantNorm(t, nil, x, 5, 1, api.OK)
	wantNorm(t, nil, x, 12, 12, api.OK)
	wantOffs(t, nil, x, api.OK, 0, 1, 2, 3, 12)
	wantClass(t, nil, x, 1, api.OK, 1, 5, 9)
}

func upTo(n int) []int {
	var l []int
	for i := range n + 1 {
		l = append(l, i)
	}
	return l
}

// P6.1 and P6.2.

func TestScalars(t *testing.T) {
	for _, x := range []api.T{char, int4, long, pointer(void), pointer(array(2, int4)), pointer(structOf("none")), pointer(function(void, int4))} {
		n, _, _ := layout.Size(nil, x)
		wantAll(t, nil, x, upTo(n))
	}
}

const manyRecords = `
struct e { };
union o { };
struct s { char a; int b[3]; long *c; };
union u { int a[2]; char b; };
struct w { char a; union u b; char c[3]; int d; char e; };
struct i { char a; char b[2]; };
struct n { struct i a[2]; char b; struct i c; };
struct p { char a; int b; char c; };
struct q { char a; struct p b[2]; };
struct z { struct e a; char b[2]; struct e c[3]; struct o *d; union o e; char f[2]; struct e g; };
union v { struct i a[2]; struct n b; char c[4]; };
struct t { char a[1]; int b[1]; };
struct m { char a[2][3]; char b; };
struct l { char (*a[2])(int); int *b; };
struct both { char a[2]; };
union both { char a[2]; };
`

// Each type's normal offsets, written by hand.
func TestNormalOffsets(t *testing.T) {
	recs := records(t, manyRecords)
	for _, c := range []struct {
		t    api.T
		want string
	}{
		{array(1, char), "0 1"},
		{array(4, char), "0 0 0 0 4"},
		{array(2, long), "0 1 2 3 4 5 6 7 0 1 2 3 4 5 6 7 16"},
		{array(2, array(2, char)), "0 0 0 0 4"},
		{array(2, array(1, array(2, int4))), "0 1 2 3 0 1 2 3 0 1 2 3 0 1 2 3 16"},
		{structOf("s"), "0 1 2 3 4 5 6 7 4 5 6 7 4 5 6 7 16 17 18 19 20 21 22 23 24"},
		{unionOf("u"), "0 1 2 3 4 5 6 7 8"},
		{array(2, unionOf("u")), "0 1 2 3 4 5 6 7 0 1 2 3 4 5 6 7 16"},
		{structOf("w"), "0 1 2 3 4 5 6 7 8 9 10 11 12 12 12 15 16 17 18 19 20 21 22 23 24"},
		{structOf("i"), "0 1 1 3"},
		{array(3, structOf("i")), "0 1 1 0 1 1 0 1 1 9"},
		{array(1, array(2, structOf("i"))), "0 1 1 0 1 1 6"},
		{structOf("n"), "0 1 1 0 1 1 6 7 8 8 10"},
		{array(2, structOf("n")), "0 1 1 0 1 1 6 7 8 8 0 1 1 0 1 1 6 7 8 8 20"},
		{structOf("q"), "0 1 2 3 4 5 6 7 8 9 10 11 12 13 14 15 4 5 6 7 8 9 10 11 12 13 14 15 28"},
		{structOf("z"), "0 0 2 3 4 5 6 7 8 9 10 11 12 13 14 15 16 16 18 19 20 21 22 23 24"},
		{unionOf("v"), "0 1 2 3 4 5 6 7 8 9 10"},
		{array(2, unionOf("v")), "0 1 2 3 4 5 6 7 8 9 0 1 2 3 4 5 6 7 8 9 20"},
		{structOf("t"), "0 1 2 3 4 5 6 7 8"},
		{structOf("m"), "0 0 0 0 0 0 6 7"},
		{structOf("l"), "0 1 2 3 4 5 6 7 0 1 2 3 4 5 6 7 16 17 18 19 20 21 22 23 24"},
		{structOf("both"), "0 0 2"},
		{unionOf("both"), "0 1 2"},
		{structOf("e"), "0"},
		{unionOf("o"), "0"},
		{array(3, structOf("e")), "0"},
		{array(4096, array(4096, unionOf("o"))), "0"},
	} {
		var l []int
		for s := range strings.SplitSeq(c.want, " ") {
			n, _ := strconv.Atoi(s)
			l = append(l, n)
		}
		wantAll(t, recs, c.t, l)
	}
}

// What layout.Size doesn't ask for in a type, these functions don't either.
func TestPartsThatDoNotMatter(t *testing.T) {
	recs := records(t, manyRecords)
	wantAll(t, recs, api.T{Kind: api.TStruct, Name: "i", N: 7, Of: []api.T{int4}}, []int{0, 1, 1, 3})
	wantAll(t, recs, api.T{Kind: api.TArr, N: 3, Name: "i", Of: []api.T{char}}, []int{0, 0, 0, 3})
	wantAll(t, recs, api.T{Kind: api.TInt, N: 3, Name: "i", Of: []api.T{char}}, upTo(4))
	wantAll(t, recs, api.T{Kind: api.TPtr}, upTo(8))
}

// The errors of layout.Size come ahead of ErrRange.
func TestTypesWithoutASize(t *testing.T) {
	recs := records(t, manyRecords)
	wrong := map[api.Errno][]api.T{
		api.ErrType: {{}, void, function(int4), {Kind: 99}, {Kind: -1}, {Kind: math.MaxInt}, {Kind: api.TArr}, {Kind: api.TArr, N: 2, Of: []api.T{int4, int4}}, array(0, int4), array(-1, int4), array(2, void), array(2, array(0, structOf("none"))), array(5000, void)},
		api.ErrNone: {structOf("none"), unionOf("i"), structOf("o"), structOf(""), array(2, structOf("none")), array(5000, unionOf("i"))},
		api.ErrSize: {array(4097, char), array(1025, int4), array(64, array(65, char)), array(4096, structOf("i")), array(math.MaxInt, long), array(1<<62, int4)},
	}
	for e, l := range wrong {
		for _, x := range l {
			for _, off := range []int{0, 1, -1, 4096, 4097, math.MinInt, math.MaxInt} {
				wantWrong(t, recs, x, off, e)
			}
		}
	}
	wantWrong(t, nil, structOf("i"), 0, api.ErrNone)
}

func TestGreatestTypes(t *testing.T) {
	recs := records(t, "struct a { char x[4096]; }; struct b { char x; char y[4095]; }; struct c { int x[1023]; char y; }; union d { char x[4096]; }; struct e { struct b x; };")
	wantAll(t, recs, array(4096, char), append(make([]int, 4096), 4096))
	wantAll(t, recs, structOf("a"), append(make([]int, 4096), 4096))
	want := slices.Repeat([]int{1}, 4097)
	want[0], want[4096] = 0, 4096
	for _, x := range []api.T{structOf("b"), structOf("e"), array(1, structOf("e"))} {
		wantOffs(t, recs, x, api.OK, 0, 1, 4096)
		wantClass(t, recs, x, 77, api.OK, upTo(4095)[1:]...)
		for off, to := range want {
			wantNorm(t, recs, x, off, to, api.OK)
		}
	}
	wantOffs(t, recs, structOf("c"), api.OK, 0, 1, 2, 3, 4092, 4093, 4094, 4095, 4096)
	wantOffs(t, recs, unionOf("d"), api.OK, upTo(4096)...)
	wantClass(t, recs, unionOf("d"), 4095, api.OK, 4095)
}

// As many records lie within each other as there may be; the innermost one has an array.
func TestMostRecordsWithinEachOther(t *testing.T) {
	for _, inner := range []string{"int x[2];", "char v; char x[7];", "char v[4]; char x[2][2];"} {
		s := "struct r0 {" + inner + "};"
		for i := 1; i < 64; i++ {
			s += "struct r" + strconv.Itoa(i) + " { char a; struct r" + strconv.Itoa(i-1) + " b[1]; char c[2]; };"
		}
		recs := records(t, s)
		for _, i := range []int{0, 1, 2, 10, 61, 62, 63} {
			wantAsReference(t, recs, structOf("r"+strconv.Itoa(i)))
		}
	}
	s := "struct r0 { int x[2]; };"
	for i := 1; i < 64; i++ {
		s += "struct r" + strconv.Itoa(i) + " { struct r" + strconv.Itoa(i-1) + " b; };"
	}
	recs := records(t, s)
	wantAll(t, recs, structOf("r63"), []int{0, 1, 2, 3, 0, 1, 2, 3, 8})
	wantAll(t, recs, array(2, structOf("r63")), []int{0, 1, 2, 3, 0, 1, 2, 3, 0, 1, 2, 3, 0, 1, 2, 3, 16})
}
