package lower_test

import (
	"slices"
	"strconv"
	"strings"
	"testing"

	"crosstree/api"
	"crosstree/lower"
)

var (
	void  = api.T{Kind: api.TVoid}
	char  = api.T{Kind: api.TChar}
	int4  = api.T{Kind: api.TInt}
	long  = api.T{Kind: api.TLong}
	recS  = api.T{Kind: api.TStruct, Name: "s"}
	recU  = api.T{Kind: api.TUnion, Name: "u"}
	recE  = api.T{Kind: api.TStruct, Name: "e"}
	recNo = api.T{Kind: api.TStruct, Name: "no"}
)

func pointer(t api.T) api.T {
	return api.T{Kind: api.TPtr, Of: []api.T{t}}
}

func array(n int, t api.T) api.T {
	return api.T{Kind: api.TArr, N: n, Of: []api.T{t}}
}

func function(l ...api.T) api.T {
	return api.T{Kind: api.TFunc, Of: l}
}

func heap(size int) api.Site {
	return api.Site{Kind: api.SiteHeap, Size: size, Func: -1, Name: "malloc"}
}

func wantSites(t *testing.T, s string, want ...api.Site) {
	t.Helper()
	got := lowered(t, s).Sites
	if !slices.EqualFunc(got, want, sameSite) {
		t.Errorf("%s:\n got: %v\nwant: %v", s, got, want)
	}
}

func TestSites(t *testing.T) {
	main := api.Site{Kind: api.SiteFunc, Name: "main", T: function(int4)}
	wantSites(t, "int main() { return 0; }", main)
	wantSites(t, "void main() { }", api.Site{Kind: api.SiteFunc, Name: "main", T: function(void)})
	// Functions first, then globals, wherever they stand; then each function's variables, and its mallocs behind them.
	second := main
	second.Func = 1
	wantSites(t, "struct s { int a; char b; }; int a[3]; int *f(char c, struct s *p) { malloc(1); long x; malloc(2); { struct s x; } return 0; } struct s g; union u { }; int main() { malloc(3); char *z; return 0; } union u *e;",
		api.Site{Kind: api.SiteFunc, Func: 0, Name: "f", T: function(pointer(int4), char, pointer(recS))}, second,
		api.Site{Kind: api.SiteGlobal, Size: 12, Func: -1, Name: "a", T: array(3, int4)}, api.Site{Kind: api.SiteGlobal, Size: 8, Func: -1, Name: "g", T: recS}, api.Site{Kind: api.SiteGlobal, Size: 8, Func: -1, Name: "e", T: pointer(recU)},
		api.Site{Kind: api.SiteLocal, Size: 1, Func: 0, Name: "c", T: char}, api.Site{Kind: api.SiteLocal, Size: 8, Func: 0, Name: "p", T: pointer(recS)}, api.Site{Kind: api.SiteLocal, Size: 8, Func: 0, Name: "x", T: long}, api.Site{Kind: api.SiteLocal, Size: 8, Func: 0, Name: "x", T: recS},
		heap(1), heap(2), api.Site{Kind: api.SiteLocal, Size: 8, Func: 1, Name: "z", T: pointer(char)}, heap(3))
	// The greatest and the least variables.
	wantSites(t, "struct e { }; struct e e; char b[4096]; int main() { long v[2][256]; struct e w[4096]; return 0; }", main,
		api.Site{Kind: api.SiteGlobal, Size: 0, Func: -1, Name: "e", T: recE}, api.Site{Kind: api.SiteGlobal, Size: 4096, Func: -1, Name: "b", T: array(4096, char)},
		api.Site{Kind: api.SiteLocal, Size: 4096, Func: 0, Name: "v", T: array(2, array(256, long))}, api.Site{Kind: api.SiteLocal, Size: 0, Func: 0, Name: "w", T: array(4096, recE)})
	// Variables in all the places where statements may be.
	wantSites(t, "int main() { if (1) char a; else char b; while (1) char c; { { char d; } if (1) { char e; } } char f; return 0; }", main,
		api.Site{Kind: api.SiteLocal, Size: 1, Name: "a", T: char}, api.Site{Kind: api.SiteLocal, Size: 1, Name: "b", T: char}, api.Site{Kind: api.SiteLocal, Size: 1, Name: "c", T: char},
		api.Site{Kind: api.SiteLocal, Size: 1, Name: "d", T: char}, api.Site{Kind: api.SiteLocal, Size: 1, Name: "e", T: char}, api.Site{Kind: api.SiteLocal, Size: 1, Name: "f", T: char})
}

func TestSizesOfMallocs(t *testing.T) {
	for s, want := range map[string]int{
		"0": -1, "1": 1, "8": 8, "4095": 4095, "4096": 4096, "4097": -1, "9223372036854775807": -1, "0x10": 16, "'a'": 97, "(5)": 5, "sizeof(long)": 8, "sizeof(struct e)": -1, "sizeof(struct s)": 48,
		"-1": -1, "2 + 2": -1, "l": -1, "(long)4": -1, "(int)4": -1, "l = 4": -1, "input()": -1, "sizeof(int) * 2": -1,
	} {
		p := lowered(t, within("malloc("+s+");"))
		if got := p.Sites[len(p.Sites)-1]; !sameSite(got, heap(want)) {
			t.Errorf("malloc(%s): %v, want the size %d", s, got, want)
		}
	}
}

// A site is made when its call is lowered: behind those of the calls in its argument.
func TestOrderOfMallocs(t *testing.T) {
	p := lowered(t, "int main() { malloc(*(long *)malloc(8)); if (malloc(1)) malloc(2); else malloc(3); while (malloc(4)) malloc(5); memcpy(malloc(6), malloc(7), 8); return malloc(9) == malloc(10); }")
	var sizes, sites []int
	for _, s := range p.Sites[1:] {
		sizes = append(sizes, s.Size)
	}
	if want := []int{8, -1, 1, 2, 3, 4, 5, 6, 7, 9, 10}; !slices.Equal(sizes, want) {
		t.Errorf("the sizes %v, want %v", sizes, want)
	}
	for _, i := range p.Fns[0].Code {
		if i.Op == api.OpMalloc {
			sites = append(sites, int(i.N))
		}
	}
	if want := []int{1, 2, 3, 4, 5, 6, 7, 8, 9, 10, 11}; !slices.Equal(sites, want) {
		t.Errorf("the sites %v, want %v", sites, want)
	}
}

// many repeats each n times, with the number of the repetition for each #.
func many(n int, each string) string {
	var b strings.Builder
	for i := range n {
		b.WriteString(strings.ReplaceAll(each, "#", strconv.Itoa(i)))
	}
	return b.String()
}

// wantSize lowers a source, which is too large or isn't.
func wantSize(t *testing.T, s string, tooLarge bool) {
	t.Helper()
	if !tooLarge {
		lowered(t, s)
		return
	}
	unit, recs := checked(t, s)
	p, e := lower.Lower(unit, recs)
	if e != api.ErrSize {
		t.Errorf("%s: the error %d", shortened(s), e)
	}
	if !sameProg(p, api.Prog{}) || p.Main != 0 {
		t.Errorf("%s: a program beside an error", shortened(s))
	}
}

func TestHowManySitesThereMayBe(t *testing.T) {
	for n, tooLarge := range map[int]bool{598: false, 599: false, 600: true, 601: true, 1000: true} {
		wantSize(t, "int main(){"+many(n, "malloc(9);")+"}", tooLarge)
	}
	// 200 of all that is counted: functions, globals, and variables in each function.
	for n, tooLarge := range map[int]bool{0: false, 1: true} {
		wantSize(t, many(200, "int g#;")+many(199, "void f#(){}")+"int main(){"+many(200, "int v#;")+many(n, "malloc(1);")+"}", tooLarge)
		wantSize(t, "void f(){"+many(200, "int v#;")+"}void g(){"+many(200, "int v#;")+"}int main(){"+many(197, "int v#;")+many(n, "malloc(1);")+"}", tooLarge)
		wantSize(t, "void f(){"+many(200, "int v#;")+"}void g(){"+many(200, "int v#;")+"}int main(){"+many(197+n, "int v#;")+"}", tooLarge)
	}
}

func TestHowManyInstructionsThereMayBe(t *testing.T) {
	for n, tooLarge := range map[int]bool{3998: false, 3999: false, 4000: true, 4001: true, 9000: true} {
		wantSize(t, "int main(){"+many(n, "1;")+"}", tooLarge)
		wantSize(t, "int main(){return 0;} void f(){"+many(n, "1;")+"} void g(){}", tooLarge)
	}
	// Each function by itself, and with all that belongs to it.
	wantSize(t, "int main(){return 0;} void f(){"+many(3999, "1;")+"} void g(){"+many(3999, "1;")+"}", false)
	wantSize(t, "int main(){return 0;} void f(int x){"+many(3997, "1;")+"}", false)
	wantSize(t, "int main(){return 0;} void f(int x){"+many(3998, "1;")+"}", true)
	wantSize(t, "int main(){"+many(1332, "!1;")+"1;}", false) // 3 for each
	wantSize(t, "int main(){"+many(1333, "!1;")+"}", false)
	wantSize(t, "int main(){"+many(1333, "!1;")+"1;}", true)
	wantSize(t, "int main(){"+many(999, "while(1)break;")+"1;1;1;}", false) // 4 for each
	wantSize(t, "int main(){"+many(999, "while(1)break;")+"1;1;1;1;}", true)
	// Instructions that write no register.
	wantSize(t, "void main(){"+many(2800, "return;")+"}", false)
	// The greatest sources.
	wantSize(t, "int g;int*p;int main(){"+strings.Repeat("g=*p;", 3990)+"}", true)
	wantSize(t, "void main(){"+strings.Repeat(";", 19980)+"}", false)
}

// As many functions as there may be, each with a call of the next one.
func TestAsManyFunctionsAsThereMayBe(t *testing.T) {
	s := "void f0(){}"
	for n := range 198 {
		s += "void f" + strconv.Itoa(n+1) + "(){f" + strconv.Itoa(n) + "();}"
	}
	p := lowered(t, s+"int main(){f198();}")
	if len(p.Fns) != 200 || p.Main != 199 || len(p.Sites) != 200 {
		t.Fatalf("%d functions, %d sites, main is %d", len(p.Fns), len(p.Sites), p.Main)
	}
	for n := range 199 {
		if i := p.Fns[n+1].Code[0]; i.Op != api.OpCall || i.N != int64(n) {
			t.Errorf("%d calls by %v", n+1, i)
		}
	}
}

// As many globals and variables as there may be: numbers of one sort don't run into those of the next one.
func TestAsManyVariablesAsThereMayBe(t *testing.T) {
	p := lowered(t, many(200, "int g#;")+"int main(){"+many(200, "int v#;")+"g0;g199;v0;v199;main;}")
	if got, want := code(p, 0), "r0 = &g0; r1 = load4 r0; r2 = &g199; r3 = load4 r2; r4 = &main.v0; r5 = load4 r4; r6 = &main.v199; r7 = load4 r6; r8 = &main; return"; got != want {
		t.Errorf(" got: %s\nwant: %s", got, want)
	}
}
