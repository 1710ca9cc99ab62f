package site_test

import (
	"math"
	"slices"
	"strings"
	"testing"

	"crosstree/api"
	"crosstree/check"
	"crosstree/layout"
	"crosstree/lower"
	"crosstree/parse"
	"crosstree/site"
)

// P16.1 to P16.3, by hand.

var (
	void = api.T{Kind: api.TVoid}
	char = api.T{Kind: api.TChar}
	int4 = api.T{Kind: api.TInt}
	long = api.T{Kind: api.TLong}
)

func structOf(name string) api.T {
	return api.T{Kind: api.TStruct, Name: name}
}

func unionOf(name string) api.T {
	return api.T{Kind: api.TUnion, Name: name}
}

func pointer(t api.T) api.T {
	return api.T{Kind: api.TPtr, Of: []api.T{t}}
}

func array(n int, t api.T) api.T {
	return api.T{Kind: api.TArr, N: n, Of: []api.T{t}}
}

func function(l ...api.T) api.T {
	return api.T{Kind: api.TFunc, Of: l}
}

func global(size int, t api.T) api.Site {
	return api.Site{Kind: api.SiteGlobal, Size: size, Func: -1, Name: "g", T: t}
}

func local(size int, t api.T) api.Site {
	return api.Site{Kind: api.SiteLocal, Size: size, Name: "l", T: t}
}

func heap(size int) api.Site {
	return api.Site{Kind: api.SiteHeap, Size: size, Func: -1, Name: "malloc"}
}

func code(size int) api.Site {
	return api.Site{Kind: api.SiteFunc, Size: size, Name: "main", T: function(int4)}
}

func programOf(sites ...api.Site) api.Prog {
	return api.Prog{Sites: sites}
}

// records are those of a source.
func records(t *testing.T, s string) []api.Rec {
	t.Helper()
	n, at, e := parse.Parse(s)
	if e != api.OK {
		t.Fatalf("%.200s: %d at %d", s, e, at)
	}
	recs, i, e := layout.Records(n)
	if e != api.OK {
		t.Fatalf("%.200s: %d at the record %d", s, e, i)
	}
	return recs
}

// lowered is a source's program, with its records.
func lowered(t *testing.T, s string) (api.Prog, []api.Rec) {
	t.Helper()
	n, at, e := parse.Parse(s)
	if e != api.OK {
		t.Fatalf("%.200s: %d at %d", s, e, at)
	}
	unit, recs, i, e := check.Check(n)
	if e != api.OK {
		t.Fatalf("%.200s: %d at the item %d", s, e, i)
	}
	p, e := lower.Lower(unit, recs)
	if e != api.OK {
		t.Fatalf("%.200s: %d", s, e)
	}
	return p, recs
}

func tableOf(t *testing.T, recs []api.Rec, sites ...api.Site) *site.Table {
	t.Helper()
	x, e := site.New(programOf(sites...), recs)
	if e != api.OK || x == nil {
		t.Fatalf("New(%.200v): %d", sites, e)
	}
	return x
}

// wantError is for programs that have no table.
func wantError(t *testing.T, e api.Errno, recs []api.Rec, sites ...api.Site) {
	t.Helper()
	if x, got := site.New(programOf(sites...), recs); got != e || x != nil {
		t.Errorf("New of %d sites, %.200v: %v, %d, want %d", len(sites), sites, x != nil, got, e)
	}
}

// wantLocs holds all ids: of each site, its normal offsets.
func wantLocs(t *testing.T, x *site.Table, normals ...[]int) {
	t.Helper()
	id := 0
	for i, l := range normals {
		var ids []int
		for _, off := range l {
			if at, e := x.Loc(id); at != (api.Loc{Site: i, Off: off}) || e != api.OK {
				t.Errorf("Loc(%d) = %v, %d, want %d of %d", id, at, e, off, i)
			}
			wantId(t, x, i, off, id, api.OK)
			ids = append(ids, id)
			id++
		}
		wantOf(t, x, i, ids...)
	}
	if x.Len() != id {
		t.Errorf("Len() = %d, want %d", x.Len(), id)
	}
	wantNoIds(t, x, math.MinInt, -id, -2, -1, id, id+1, 3000, 3001, 1<<32, math.MaxInt)
	for _, i := range []int{math.MinInt, -2, -1, len(normals), len(normals) + 1, 1 << 32, math.MaxInt} {
		wantOf(t, x, i)
		for _, off := range []int{0, -1, 1, 5000} {
			wantId(t, x, i, off, 0, api.ErrArg)
		}
	}
}

func wantNoIds(t *testing.T, x *site.Table, ids ...int) {
	t.Helper()
	for _, id := range ids {
		if at, e := x.Loc(id); at != (api.Loc{}) || e != api.ErrArg {
			t.Errorf("Loc(%d) = %v, %d", id, at, e)
		}
		for _, k := range []int{0, 1, -1, 8, 8192} {
			wantShift(t, x, id, k)
			wantAny(t, x, id, k)
		}
	}
}

func wantId(t *testing.T, x *site.Table, i, off, want int, e api.Errno) {
	t.Helper()
	if id, err := x.Id(i, off); id != want || err != e {
		t.Errorf("Id(%d, %d) = %d, %d, want %d, %d", i, off, id, err, want, e)
	}
}

func wantOf(t *testing.T, x *site.Table, i int, want ...int) {
	t.Helper()
	if l := x.Of(i); !slices.Equal(l, want) {
		t.Errorf("Of(%d) = %v, want %v", i, short(l), short(want))
	}
}

func wantShift(t *testing.T, x *site.Table, id, k int, want ...int) {
	t.Helper()
	if l := x.Shift(id, k); !slices.Equal(l, want) {
		t.Errorf("Shift(%d, %d) = %v, want %v", id, k, short(l), short(want))
	}
}

func wantAny(t *testing.T, x *site.Table, id, stride int, want ...int) {
	t.Helper()
	if l := x.Any(id, stride); !slices.Equal(l, want) {
		t.Errorf("Any(%d, %d) = %v, want %v", id, stride, short(l), short(want))
	}
}

func short(l []int) []int { return l[:min(len(l), 20)] }

// from lists the numbers from a to b.
func from(a, b int) []int {
	var l []int
	for i := a; i <= b; i++ {
		l = append(l, i)
	}
	return l
}

// The chapter's examples. Of the five ids of a, the offsets are 0, 1, 2, 3 and 12.
func TestExamples(t *testing.T) {
	p, recs := lowered(t, "int a[3]; int main() { return 0; }")
	x := tableOf(t, recs, p.Sites...)
	wantLocs(t, x, []int{0}, []int{0, 1, 2, 3, 12})
	if at, e := x.Loc(1); at != (api.Loc{Site: 1}) || e != api.OK {
		t.Errorf("Loc(1) = %v, %d", at, e)
	}
	wantOf(t, x, 1, 1, 2, 3, 4, 5)
	wantId(t, x, 1, 5, 2, api.OK)
	wantId(t, x, 1, 9, 2, api.OK)
	wantShift(t, x, 3, 3, 2)
	wantShift(t, x, 3, 10, 5)
	wantShift(t, x, 3, 11)
}

// P16.1.

const someRecords = `
struct e { };
struct p { char a; int b; char c; };
struct s { char a; int b[3]; long *c; };
union u { char a[3]; int b[2]; };
struct n { struct p a[2]; char b[3]; union u c; };
`

func TestNumbers(t *testing.T) {
	recs := records(t, someRecords)
	s := append(from(0, 7), from(16, 24)...)
	u := from(0, 8)
	n := slices.Concat(from(0, 11), []int{24}, []int{27}, from(28, 36))
	x := tableOf(t, recs,
		code(0), code(0), global(8, pointer(void)), local(12, structOf("p")), heap(-1), global(24, structOf("s")),
		heap(3), local(8, unionOf("u")), global(36, structOf("n")), local(0, structOf("e")), global(0, array(7, structOf("e"))),
		global(24, array(2, array(1, structOf("p")))), global(4096, array(4096, char)), heap(4096), code(2), local(1, char))
	wantLocs(t, x,
		[]int{0}, []int{0}, from(0, 8), from(0, 12), from(0, 7), s,
		from(0, 3), u, n, []int{0}, []int{0},
		append(from(0, 11), 24), []int{0, 4096}, from(0, 7), from(0, 2), []int{0, 1})
}

func TestWithoutSites(t *testing.T) {
	for _, sites := range [][]api.Site{nil, {}} {
		for _, recs := range [][]api.Rec{nil, {}} {
			wantLocs(t, tableOf(t, recs, sites...))
		}
	}
}

// Only a site's Kind, Size and T count.
func TestPartsThatDoNotMatter(t *testing.T) {
	x, e := site.New(api.Prog{Main: 7, Fns: []api.Fn{{Name: "f", Regs: -1}}, Sites: []api.Site{
		{Kind: api.SiteLocal, Size: 1, Func: 99, T: api.T{Kind: api.TChar, N: 5, Name: "x", Of: []api.T{void}}},
		{Kind: api.SiteHeap, Size: 1, Func: -7, T: structOf("none")},
		{Kind: api.SiteFunc, Size: 1, Func: -7, T: structOf("none")},
		{Kind: api.SiteHeap, Size: -2, T: array(3, char)},
	}}, nil)
	if e != api.OK {
		t.Fatal(e)
	}
	wantLocs(t, x, []int{0, 1}, []int{0, 1}, []int{0, 1}, from(0, 7))
}

// A site of no Kind is like a global.
func TestOtherKinds(t *testing.T) {
	for _, kind := range []int{math.MinInt, -1, 0, api.SiteGlobal, api.SiteLocal, 5, 99, math.MaxInt} {
		of := func(size int, x api.T) api.Site { return api.Site{Kind: kind, Size: size, T: x} }
		x := tableOf(t, nil, of(6, array(6, char)), of(100, array(25, int4)))
		wantLocs(t, x, []int{0, 6}, []int{0, 1, 2, 3, 100})
		wantError(t, api.ErrArg, nil, of(-1, array(6, char)))
		wantError(t, api.ErrArg, nil, of(5, array(6, char)))
		wantError(t, api.ErrType, nil, of(0, void))
	}
}

// Which sizes make a SiteHeap loose.
func TestLooseSites(t *testing.T) {
	for _, size := range []int{math.MinInt, -4096, -2, -1, 65, 66, 72, 4095, 4096} {
		x := tableOf(t, nil, heap(1), heap(size))
		wantLocs(t, x, []int{0, 1}, from(0, 7))
		for _, off := range []int{0, 1, 7, 8, 9, 64, 65, 66, 100, 4089, 4095, 4096} {
			wantId(t, x, 1, off, 2+off%8, api.OK)
		}
		for _, off := range []int{math.MinInt, -8, -1, 4097, 4104, 1 << 32, math.MaxInt} {
			wantId(t, x, 1, off, 0, api.ErrRange)
		}
	}
	for _, size := range []int{0, 1, 2, 7, 8, 9, 63, 64} {
		x := tableOf(t, nil, heap(1), heap(size))
		wantLocs(t, x, []int{0, 1}, from(0, size))
		for _, off := range []int{math.MinInt, -1, size + 1, 4096, math.MaxInt} {
			wantId(t, x, 1, off, 0, api.ErrRange)
		}
	}
	for _, size := range []int{4097, 5000, 1 << 32, math.MaxInt} {
		wantError(t, api.ErrArg, nil, heap(1), heap(size))
	}
}

// A site of a function is never loose.
func TestSitesOfFunctions(t *testing.T) {
	for _, size := range []int{0, 1, 64, 65, 66, 100, 2997} {
		wantLocs(t, tableOf(t, nil, heap(1), code(size)), []int{0, 1}, from(0, size))
	}
	for _, size := range []int{math.MinInt, -2, -1, 4097, math.MaxInt} {
		wantError(t, api.ErrArg, nil, heap(1), code(size))
	}
	wantError(t, api.ErrSize, nil, code(4096))
}

func TestWrongSizes(t *testing.T) {
	recs := records(t, someRecords)
	for _, s := range []api.Site{global(12, structOf("p")), local(8, unionOf("u")), local(0, structOf("e")), global(8, long), local(4, int4), global(30, array(30, char)), local(4096, array(1024, int4)), global(0, array(3, structOf("e")))} {
		tableOf(t, recs, s)
		for _, size := range []int{math.MinInt, -1 << 32, -s.Size - 1, -1, 0, 1, 3, 5, 7, 9, s.Size - 1, s.Size + 1, 2 * s.Size, 4095, 4096, 4097, 1 << 32, s.Size + 1<<32, math.MaxInt} {
			if size != s.Size {
				wrong := s
				wrong.Size = size
				wantError(t, api.ErrArg, recs, wrong)
				wantError(t, api.ErrArg, recs, code(0), s, wrong, global(0, void))
			}
		}
	}
}

// The error of layout.Size comes behind that of the Size by itself, and ahead of that of a Size which isn't that of the type.
func TestTypesWithoutASize(t *testing.T) {
	recs := records(t, someRecords)
	for e, l := range map[api.Errno][]api.T{
		api.ErrType: {{}, void, function(int4), {Kind: 99}, {Kind: -1}, {Kind: api.TArr}, {Kind: api.TArr, N: 2, Of: []api.T{int4, int4}}, array(0, int4), array(-1, int4), array(2, void), array(2, array(0, structOf("none")))},
		api.ErrNone: {structOf("none"), unionOf("s"), structOf("u"), structOf(""), array(2, structOf("none")), array(5000, unionOf("s"))},
		api.ErrSize: {array(4097, char), array(1025, int4), array(64, array(65, char)), array(4096, structOf("p")), array(math.MaxInt, long)},
	} {
		for _, x := range l {
			for _, size := range []int{0, 1, 8, 4096} {
				wantError(t, e, recs, global(size, x))
				wantError(t, e, recs, code(0), heap(9), local(size, x), global(-1, char), global(8, pointer(x)))
			}
			for _, size := range []int{-1, 4097, math.MinInt, math.MaxInt} {
				wantError(t, api.ErrArg, recs, local(size, x))
			}
			tableOf(t, recs, api.Site{Kind: api.SiteHeap, Size: 1, T: x}, api.Site{Kind: api.SiteFunc, Size: 1, T: x}, global(8, pointer(x)))
		}
	}
	wantError(t, api.ErrNone, nil, global(12, structOf("p")))
}

// Records that layout.Records doesn't return have a size for layout.Size, too, but no site has as many bytes.
func TestTooGreatRecords(t *testing.T) {
	for _, size := range []int{math.MinInt, -1, 4097, 5000, math.MaxInt} {
		recs := []api.Rec{{T: structOf("a"), Size: size, Align: 1}, {T: unionOf("a"), Size: size, Align: 1}}
		for _, own := range []int{0, 1, 4096} {
			wantError(t, api.ErrArg, recs, global(own, structOf("a")))
			wantError(t, api.ErrArg, recs, global(own, unionOf("a")))
			if size > api.MaxSize {
				wantError(t, api.ErrSize, recs, global(own, array(1, structOf("a"))))
			}
		}
	}
}

// The sites' errors come in the order of the sites.
func TestOrderOfErrors(t *testing.T) {
	arg, typ, none, great := global(3, int4), global(0, void), global(1, structOf("none")), code(3000)
	fill := slices.Repeat([]api.Site{heap(64)}, 46) // 2990 ids
	wantError(t, api.ErrArg, nil, arg, typ, none, great)
	wantError(t, api.ErrType, nil, typ, none, great, arg)
	wantError(t, api.ErrNone, nil, none, great, arg, typ)
	wantError(t, api.ErrSize, nil, great, arg, typ, none)
	for _, c := range []struct {
		s api.Site
		e api.Errno
	}{{arg, api.ErrArg}, {typ, api.ErrType}, {none, api.ErrNone}, {heap(64), api.ErrSize}, {heap(5000), api.ErrArg}, {code(-1), api.ErrArg}, {global(4096, array(5000, char)), api.ErrSize}, {global(4095, array(4096, char)), api.ErrArg}} {
		wantError(t, c.e, nil, append(slices.Clone(fill), c.s)...)
		wantError(t, c.e, nil, slices.Concat(fill, []api.Site{heap(9), c.s})...)
		wantError(t, api.ErrSize, nil, slices.Concat(fill, []api.Site{heap(10), c.s})...)
	}
}

func TestHowManyIdsThereMayBe(t *testing.T) {
	repeated := func(n int, s api.Site) []api.Site { return slices.Repeat([]api.Site{s}, n) }
	for _, l := range [][]api.Site{
		repeated(3000, code(0)), repeated(3000, heap(0)), repeated(1500, heap(1)), repeated(375, heap(-1)), {code(2999)}, {code(2998), heap(0)},
		repeated(600, global(4, int4)), repeated(1500, global(9, array(9, char))), append(repeated(46, heap(64)), heap(9)),
	} {
		x := tableOf(t, nil, l...)
		if x.Len() != 3000 {
			t.Errorf("Len() = %d of %d sites", x.Len(), len(l))
		}
		if at, e := x.Loc(2999); at.Site != len(l)-1 || e != api.OK {
			t.Errorf("Loc(2999) = %v, %d of %d sites", at, e, len(l))
		}
		wantNoIds(t, x, 3000, 3001)
		wantError(t, api.ErrSize, nil, append(slices.Clone(l), code(0))...)
		wantError(t, api.ErrSize, nil, append([]api.Site{heap(0)}, l...)...)
	}
}

// The programs of sources, and the sites that lower.Lower makes.
func TestPrograms(t *testing.T) {
	p, recs := lowered(t, "struct s { int a[3]; char *p; }; struct s g[2]; int f(char c) { malloc(16); malloc(c); malloc(65); return 0; } int main() { struct s *p; int a[2][2]; return 0; }")
	x := tableOf(t, recs, p.Sites...)
	wantLocs(t, x, []int{0}, []int{0}, slices.Concat(from(0, 3), from(12, 23), []int{48}), []int{0, 1}, from(0, 16), from(0, 7), from(0, 7), from(0, 8), []int{0, 1, 2, 3, 16})
	// 1 for main, 11 for each malloc, and the last one's.
	for last, e := range map[string]api.Errno{"malloc(6);": api.OK, "malloc(7);": api.ErrSize, "malloc(65);": api.ErrSize, "malloc(5); malloc(0);": api.ErrSize, "{ char v; } { int v; }": api.OK} {
		p, recs := lowered(t, "int main() {"+strings.Repeat("malloc(10);", 272)+last+"return 0; }")
		if x, got := site.New(p, recs); got != e || (x == nil) != (e != api.OK) || x.Len() != 0 && x.Len() != 3000 {
			t.Errorf("%s: %d, %d ids, want %d", last, got, x.Len(), e)
		}
	}
}

// P16.2 is held by wantLocs, and here for offsets that aren't normal.
func TestIds(t *testing.T) {
	recs := records(t, someRecords)
	x := tableOf(t, recs, code(0), global(24, structOf("s")), heap(4), global(6, array(3, array(2, char))), local(8, unionOf("u")))
	for off, to := range []int{0, 1, 2, 3, 4, 5, 6, 7, 4, 5, 6, 7, 4, 5, 6, 7, 8, 9, 10, 11, 12, 13, 14, 15, 16} {
		wantId(t, x, 1, off, 1+to, api.OK)
	}
	for off := range 5 {
		wantId(t, x, 2, off, 18+off, api.OK)
	}
	for off, to := range []int{0, 0, 0, 0, 0, 0, 1} {
		wantId(t, x, 3, off, 23+to, api.OK)
	}
	for off := range 9 {
		wantId(t, x, 4, off, 25+off, api.OK)
	}
	for i, last := range []int{0, 24, 4, 6, 8} {
		for _, off := range []int{math.MinInt, -1 << 32, -last, -1, last + 1, 4096, 4097, 1 << 32, math.MaxInt} {
			if off < 0 || off > last {
				wantId(t, x, i, off, 0, api.ErrRange)
			}
		}
	}
}

// P16.3.

func TestShift(t *testing.T) {
	recs := records(t, someRecords)
	// 0: the function. 1 to 17: s, 0 to 7 and 16 to 24. 18 to 22: the heap. 23 to 27: the array.
	x := tableOf(t, recs, code(0), global(24, structOf("s")), heap(4), local(20, array(5, int4)))
	wantLocs(t, x, []int{0}, append(from(0, 7), from(16, 24)...), from(0, 4), append(from(0, 3), 20))
	wantShift(t, x, 0, 0, 0)
	wantShift(t, x, 0, 1)
	wantShift(t, x, 0, -1)
	for id := range x.Len() {
		wantShift(t, x, id, 0, id)
	}
	// Into an array, from before it; out of it, from each of its elements; and past it.
	wantShift(t, x, 1, 1, 2)
	wantShift(t, x, 1, 9, 6)
	wantShift(t, x, 1, 15, 8)
	wantShift(t, x, 1, 16, 9)
	wantShift(t, x, 1, 24, 17)
	wantShift(t, x, 1, 25)
	wantShift(t, x, 6, 4, 6, 10)
	wantShift(t, x, 6, -4, 2, 6)
	wantShift(t, x, 6, 12, 10, 14)
	wantShift(t, x, 6, -5, 1, 5)
	wantShift(t, x, 6, -9, 1, 5)
	wantShift(t, x, 6, 19, 17)
	wantShift(t, x, 6, 15, 13, 17)
	wantShift(t, x, 6, 11, 9, 13, 17)
	wantShift(t, x, 6, 20)
	wantShift(t, x, 6, -13, 1)
	wantShift(t, x, 6, -14)
	wantShift(t, x, 17, -24, 1)
	wantShift(t, x, 17, -25)
	wantShift(t, x, 17, -9, 8)
	wantShift(t, x, 17, -10, 7)
	wantShift(t, x, 17, 1)
	// A small heap is no array.
	wantShift(t, x, 19, 2, 21)
	wantShift(t, x, 19, 3, 22)
	wantShift(t, x, 19, 4)
	wantShift(t, x, 19, -1, 18)
	wantShift(t, x, 19, -2)
	wantShift(t, x, 22, 1)
	// Within an array, and to its end and from it.
	wantShift(t, x, 24, 4, 24)
	wantShift(t, x, 24, 3, 23, 27)
	wantShift(t, x, 24, -1, 23)
	wantShift(t, x, 24, 16, 24)
	wantShift(t, x, 24, 19, 27)
	wantShift(t, x, 24, 20)
	wantShift(t, x, 24, -17, 23)
	wantShift(t, x, 24, -18)
	wantShift(t, x, 27, -1, 26)
	wantShift(t, x, 27, -20, 23)
	wantShift(t, x, 27, -21)
	wantShift(t, x, 27, 4)
	// Not into the next site, nor the one before.
	wantShift(t, x, 22, 2)
	wantShift(t, x, 18, -1)
}

func TestShiftOfLooseSites(t *testing.T) {
	x := tableOf(t, nil, heap(1), heap(-1), heap(65))
	for _, first := range []int{2, 10} {
		for own := range 8 {
			for _, k := range []int{0, 1, 2, 7, 8, 9, 63, 100, 4088, 4096, 4097, 4103, 5000, 8185, 8191, 8192} {
				wantShift(t, x, first+own, k, first+(own+k)%8)
				wantShift(t, x, first+own, -k, first+(own-k+8192)%8)
			}
		}
	}
	wantShift(t, x, 5, -5, 8) // of 3 to 6
	wantShift(t, x, 13, 8, 13)
}

func TestAny(t *testing.T) {
	recs := records(t, someRecords)
	// 0: the function. 1 to 17: s, 0 to 7 and 16 to 24. 18 to 34: the heap. 35 to 39: the array. 40, 41: another array.
	x := tableOf(t, recs, code(0), global(24, structOf("s")), heap(16), local(20, array(5, int4)), global(6, array(6, char)))
	for id := range x.Len() {
		at, _ := x.Loc(id)
		for _, sign := range []int{1, -1} {
			wantAny(t, x, id, 0, id)
			wantAny(t, x, id, sign, x.Of(at.Site)...)
			if at.Site != 1 && at.Site != 3 && at.Site != 4 {
				wantAny(t, x, id, sign*17, id)
				wantAny(t, x, id, sign*8192, id)
			}
		}
	}
	for _, sign := range []int{1, -1} {
		wantAny(t, x, 1, sign*24, 1, 17)
		wantAny(t, x, 17, sign*24, 1, 17)
		wantAny(t, x, 1, sign*25, 1)
		wantAny(t, x, 1, sign*8, 1, 5, 9, 17) // 0, 8 in the array, 16, 24
		wantAny(t, x, 2, sign*8, 2, 6, 10)
		wantAny(t, x, 5, sign*8, 1, 5, 9, 13, 17) // 4, 12; 8 in the array, too: 0, 16, 24
		wantAny(t, x, 5, sign*4096, 5)
		wantAny(t, x, 18, sign*8, 18, 26, 34)
		wantAny(t, x, 21, sign*8, 21, 29)
		wantAny(t, x, 34, sign*16, 18, 34)
		wantAny(t, x, 21, sign*5, 21, 26, 31)
		wantAny(t, x, 22, sign*5, 22, 27, 32)
		wantAny(t, x, 35, sign*4, 35, 39)
		wantAny(t, x, 36, sign*4, 36)
		wantAny(t, x, 36, sign*2, 36, 38)
		wantAny(t, x, 36, sign*19, 36, 39)
		wantAny(t, x, 36, sign*20, 36)
		wantAny(t, x, 39, sign*20, 35, 39)
		wantAny(t, x, 39, sign*19, 36, 39)
		wantAny(t, x, 40, sign*6, 40, 41)
		wantAny(t, x, 40, sign*7, 40)
		wantAny(t, x, 41, sign*7, 41)
		wantAny(t, x, 41, sign*3, 40, 41)
	}
}

func TestAnyOfLooseSites(t *testing.T) {
	x := tableOf(t, nil, heap(1), heap(-1), heap(65))
	for _, first := range []int{2, 10} {
		every := from(first, first+7)
		for own := range 8 {
			id := first + own
			wantAny(t, x, id, 0, id)
			for _, sign := range []int{1, -1} {
				for _, stride := range []int{1, 3, 5, 7, 9, 4097, 8191} {
					wantAny(t, x, id, sign*stride, every...)
				}
				for _, stride := range []int{2, 6, 10, 4098, 8190} {
					wantAny(t, x, id, sign*stride, first+own%2, first+own%2+2, first+own%2+4, first+own%2+6)
				}
				for _, stride := range []int{4, 12, 20, 4092, 8188} {
					wantAny(t, x, id, sign*stride, first+own%4, first+own%4+4)
				}
				for _, stride := range []int{8, 16, 24, 4096, 4104, 8184, 8192} {
					wantAny(t, x, id, sign*stride, id)
				}
			}
		}
	}
}

// The greatest k and strides, and those that are too great.
func TestTooGreatSteps(t *testing.T) {
	x := tableOf(t, nil, heap(-1), global(4096, array(4096, char)), code(8))
	for id := range x.Len() {
		for _, k := range []int{8193, -8193, 8194, -8200, 16384, 1 << 32, -1 << 32, 1<<32 + 1, math.MinInt, math.MinInt + 8, math.MaxInt} {
			wantShift(t, x, id, k)
			wantAny(t, x, id, k)
		}
	}
	wantShift(t, x, 3, 8192, 3)
	wantShift(t, x, 3, -8191, 4)
	wantAny(t, x, 3, 8191, from(0, 7)...)
	wantAny(t, x, 3, -8192, 3)
	wantShift(t, x, 8, 4096, 9)
	wantShift(t, x, 8, 4095, 8, 9)
	wantShift(t, x, 8, 4097)
	wantShift(t, x, 8, 8192)
	wantShift(t, x, 9, -4096, 8)
	wantShift(t, x, 9, -4097)
	wantShift(t, x, 9, -8192)
	wantAny(t, x, 8, 4096, 8, 9)
	wantAny(t, x, 8, 4097, 8)
	wantAny(t, x, 9, -4097, 9)
	wantAny(t, x, 9, -8192, 9)
	wantAny(t, x, 10, 8192, 10)
}

// Tables that are nil, or that New didn't return.
func TestTablesWithoutIds(t *testing.T) {
	var none *site.Table
	for _, x := range []*site.Table{none, {}, new(site.Table)} {
		wantLocs(t, x)
		wantNoIds(t, x, 0, 1, 2)
		wantOf(t, x, 0)
		wantId(t, x, 0, 0, 0, api.ErrArg)
		wantId(t, x, 0, -1, 0, api.ErrArg)
	}
}
