package parse_test

import (
	"strings"
	"testing"

	"crosstree/api"
	"crosstree/parse"
)

// wantErrorIn checks that the source s, without its mark (¦), is answered with an error at the mark.
func wantErrorIn(t *testing.T, s string, e api.Errno) {
	t.Helper()
	before, after, ok := strings.Cut(s, "¦")
	if !ok {
		t.Fatalf("%q has no mark", s)
	}
	wantError(t, before+after, len(before), e)
}

// P2.1: the error of the lexer stands first.
func TestErrorsOfTheLexer(t *testing.T) {
	long := strings.Repeat("n", 25)
	wantErrorIn(t, "¦$", api.ErrSyntax)
	wantErrorIn(t, "x; ¦$", api.ErrSyntax)
	wantErrorIn(t, "x; ¦"+long, api.ErrSize)
	wantErrorIn(t, "int a[0]; ¦08", api.ErrSyntax)
	wantErrorIn(t, "int a[¦9223372036854775808];", api.ErrSize)
	wantErrorIn(t, "int a; ¦/* x", api.ErrSyntax)
	wantError(t, strings.Repeat(" ", 20001), 0, api.ErrSize)
	wantError(t, "x"+strings.Repeat(";", 20000), 0, api.ErrSize)
	wantError(t, "x"+strings.Repeat(";", 19999), 0, api.ErrSyntax)
	wantErrorIn(t, "void f(){"+strings.Repeat("{", 100)+"¦$", api.ErrSyntax)
}

// P2.1: ErrSyntax at the first token that can't continue.
func TestSyntaxOfItems(t *testing.T) {
	for _, s := range []string{
		"¦x;", "¦;", "¦{", "¦3", "¦if", "¦(", "¦sizeof",
		"int¦", "int ¦3;", "int ¦;", "int ¦int", "int a¦", "int a ¦b;", "int a ¦= 1;", "int a¦, b;",
		"int * ¦;", "int * ¦[", "int *¦", "int a[¦", "int a[¦]", "int a[¦n]", "int a[¦-1]", "int a[3¦", "int a[3 ¦+ 1]", "int a[3]¦", "int a[3] ¦(", "int a[3] ¦b",
		"struct¦", "struct ¦;", "struct ¦{", "struct ¦int", "struct ¦3", "struct s¦", "struct s ¦;", "struct s {¦", "struct s * ¦{", "int x ¦{", "int ¦{", "int * ¦{ }",
		"struct s { ¦x", "struct s { ¦; }", "struct s { int ¦}", "struct s { int a ¦}", "struct s { int a ¦= 1; };",
		"struct s { int a; }¦", "struct s { int a; } ¦x;", "struct s { int f¦(); };", "struct s { struct t ¦{", "struct s { } ¦int", "struct s { int a¦, b; };",
		"int (¦", "int (¦a)", "int (¦int", "int (*¦", "int (*¦)", "int (*¦*a)();", "int (*¦3)();", "int (*a¦", "int (*a ¦(", "int (*a ¦;", "int (*a)¦", "int (*a) ¦;",
		"int (*a)¦[3];", "int (*a)(¦", "int (*a)(¦x", "int (*a)(int¦", "int (*a)(int ¦x", "int (*a)(int,¦", "int (*a)(int,¦)", "int (*a)(int ¦[", "int (*a)(¦,", "int (*a)(int * (¦int)", "int (*a)(int (*¦x)", "int (*a)(int (*)¦)",
		"int (*a)() ¦{", "int (*a)() ¦(", "int (*a[¦])();",
		"int f(¦", "int f(¦x", "int f(int¦", "int f(int¦)", "int f(int x¦", "int f(int x ¦y", "int f(int x,¦", "int f(int x,¦)", "int f(¦,", "int f(int x ¦= 1)",
		"int f()¦", "int f()¦;", "int f() ¦int", "int f() {¦", "int f() {} ¦;", "int f() {} ¦}", "int f[2]¦() {}", "int f() ¦[", "int f()¦()",
	} {
		wantErrorIn(t, s, api.ErrSyntax)
	}
}

func TestSyntaxOfStatements(t *testing.T) {
	for _, s := range []string{
		"¦)", "¦]", "¦,", "¦=", "¦else", "¦.", "¦->", "¦+", "¦/", "a¦}", "a ¦b", "a¦)", "a;¦",
		"{¦", "{ a ¦}", "}¦}",
		"if ¦a", "if (¦)", "if (¦;", "if (a¦;", "if (a) ¦}", "if (a) ¦else", "if (a) ; else ¦}", "if (a) ; else ; ¦else", "if (a) {} ; ¦else", "if (¦int a)",
		"while ¦a", "while (¦)", "while (a ¦b", "while (a) ¦}", "while (a) ; ¦else",
		"return ¦}", "return ¦)", "return ¦int x;", "return a ¦}", "return a ¦b", "return ¦return", "break ¦a", "break ¦}", "continue ¦a", "continue ¦}",
		"int ¦;", "int x ¦}", "int x = ¦;", "int x = ¦{", "int x = a ¦, y", "int x ¦, y", "int x¦() {", "struct s ¦;", "struct s ¦{", "struct ¦{", "int x = ¦int", "int (*f)(¦x)",
	} {
		wantErrorIn(t, "void f(){ "+s, api.ErrSyntax)
	}
}

func TestSyntaxOfExpressions(t *testing.T) {
	for _, s := range []string{
		"a = ¦;", "a = ¦)", "a = ¦=", "a ¦! b", "a ¦~", "a + ¦;", "a + ¦)", "a + ¦int", "a = ¦else", "a +¦", "a == ¦= b", "- ¦;", "&¦", "a & & ¦;", "a < ¦> b",
		"(¦", "(¦)", "(a¦", "(a ¦;", "(a ¦, b)", "(a ¦]", "(a)¦b", "(a)¦1", "(¦while) 1", "(¦if", "(¦else)", "(¦return)", "(¦break",
		"(int¦", "(int ¦a)", "(int ¦[3])", "(int *¦", "(int * ¦&)", "(int)¦;", "(int)¦)", "(int)¦=", "(struct ¦)", "(int (¦)", "(int (*¦a)", "(int (*)¦)", "(int (*)(¦a", "(int (*)()¦;", "(int (*)()) ¦)", "(int (*)() ¦(",
		"sizeof ¦a", "sizeof ¦int", "sizeof (¦a)", "sizeof (¦1)", "sizeof (¦)", "sizeof (int¦;", "sizeof (int)¦[1]", "sizeof (int)¦.a", "sizeof (int)¦(", "sizeof (int)¦a", "sizeof¦", "sizeof (¦sizeof",
		"a[¦]", "a[¦", "a[1¦;", "a[1¦, 2]", "a[¦int]", "a.¦1", "a.¦;", "a.¦(b)", "a.¦int", "a->¦", "a->¦*b", "a->¦if",
		"a(¦", "a(¦,", "a(1¦", "a(1¦;", "a(1,¦)", "a(1,¦", "a(1 ¦2)", "a(¦int)", "a(1,¦,", "a()¦b",
		"1 ¦2", "1 ¦a", "a ¦1", "a ¦'b'", "a ¦{", "a ¦return",
	} {
		wantErrorIn(t, "void f(){ "+s, api.ErrSyntax)
	}
}

func TestEndOfTheSource(t *testing.T) {
	for _, s := range []string{"int", "int a", "struct s {", "int f() {", "int f() { a", "int f() { (", "int f() { if", "int f() { return", "int (", "int (*a)("} {
		for _, tail := range []string{"", " ", "\n\n", " // x", "/* x */ "} {
			wantErrorIn(t, s+tail+"¦", api.ErrSyntax)
		}
	}
}

// P2.1: ErrSize at a number in brackets.
func TestSizesOfArrays(t *testing.T) {
	for _, wrong := range []string{"0", "4097", "0x0", "0x1001", "9223372036854775807", "0x100000001"} {
		for _, s := range []string{
			"int a[¦N", "int a[¦N];", "int *a[1][¦N", "int a[¦N][0", "int (*a[¦N", "int (*a[2][¦N])();", "struct s { int a[¦N]; };", "struct s { int a; int (*b[¦N", "int f(int a[¦N",
			"int f(int a, int (*b[¦N", "int f() { int a[¦N", "int f() { int a[2][¦N] = 1; }", "int f() { if (a) int (*b[¦N", "int a[¦N x", "int a[3]; int a[¦N]; x",
		} {
			wantErrorIn(t, strings.ReplaceAll(s, "N", wrong), api.ErrSize)
		}
	}
	for _, right := range []string{"1", "2", "4095", "4096", "0x1", "0x1000", "'a'", "' '"} {
		wantOK(t, strings.ReplaceAll("int a[N]; int *b[N][N]; int (*c[N])(); struct s { char d[N]; }; int f(int e[N]) { int g[N][1][N]; }", "N", right))
	}
	// A number in brackets that isn't in a declaration may be any.
	wantOK(t, "int f() { a[0][4097] = 9223372036854775807; }")
	wantErrorIn(t, "int a[3 ¦4097]", api.ErrSyntax)
	wantErrorIn(t, "¦x; int a[0];", api.ErrSyntax)
}

// P2.1: ErrSize at the comma after the sixth of a list.
func TestLengthsOfLists(t *testing.T) {
	six := func(one string) string { return strings.Repeat(one+", ", 5) + one }
	lists := []struct{ open, one, end string }{
		{"int f(", "int a", ") {}"},
		{"int f(", "int (*a[2])(int, int)", ") {}"},
		{"int (*a)(", "int", ");"},
		{"int (*a[2])(", "char *(*)(int, int)", ");"},
		{"int (*a)(int, int (*)(", "int", "));"},
		{"struct s { int (*a)(", "long *", "); };"},
		{"int f(int (*a)(", "int", ")) {}"},
		{"int f() { int (*a)(", "int", "); }"},
		{"int f() { (int (*)(", "int", "))a; }"},
		{"int f() { sizeof(int (*)(", "struct s", ")); }"},
		{"int f() { g(", "a = b", "); }"},
		{"int f() { g(", "h(1, 2, 3, 4, 5, 6)", "); }"},
		{"int f() { a[g(1)(", "(b)", ")]; }"},
	}
	for _, c := range lists {
		wantOK(t, c.open+six(c.one)+c.end)
		wantErrorIn(t, c.open+six(c.one)+"¦, "+c.one+c.end, api.ErrSize)
		wantErrorIn(t, c.open+six(c.one)+"¦,", api.ErrSize)
		wantErrorIn(t, c.open+six(c.one)+" ¦,,", api.ErrSize)
		wantErrorIn(t, c.open+six(c.one)+" ¦]", api.ErrSyntax)
	}
}

// P2.1: of several errors the first one from the left is told.
func TestFirstErrorFromTheLeft(t *testing.T) {
	list := "int (*b)(int,int,int,int,int,int"
	deep := "int f() {" + strings.Repeat("{", 59)
	wantErrorIn(t, "int a[¦0]; "+list+", int", api.ErrSize)
	wantErrorIn(t, "int a[1]; "+list+"¦, int a[0]", api.ErrSize)
	wantErrorIn(t, "int a ¦b; int a[0];", api.ErrSyntax)
	wantErrorIn(t, "int a[¦0]; "+deep+"{", api.ErrSize)
	wantErrorIn(t, deep+"¦{ ) int a[0]", api.ErrDeep)
	wantErrorIn(t, deep[:len(deep)-1]+"int a[¦0]; {{", api.ErrSize)
	wantErrorIn(t, deep[:len(deep)-1]+"; int ¦) {{", api.ErrSyntax)
}

// P2.1: a tree may have 250 levels.
func TestLevelsOfATree(t *testing.T) {
	for _, c := range []struct {
		open, one, end string
		around         int // levels without any of one
	}{
		{"void f(){a", "+a", ";}", 5},
		{"void f(){1", ".b", ";}", 5},
		{"void f(){a", "->b", ";}", 5},
		{"void f(){a", "()", ";}", 5},
		{"void f(){int x=a", "[1]", ";}", 5},
		{"void f(){return a", "*a", ";}", 5},
		{"void f(){{{a", "-1", ";}}}", 7},
		{"int a; void f(int b){} void g(){c(d", "|a", ");}", 6},
	} {
		n := 250 - c.around
		s := c.open + strings.Repeat(c.one, n) + c.end
		wantOK(t, s)
		if n, _, _ := parse.Parse(s); parse.Depth(n) != 250 {
			t.Errorf("Depth of %.30s is %d", s, parse.Depth(n))
		}
		more := c.open + strings.Repeat(c.one, n+1)
		wantError(t, more+c.end, 0, api.ErrDeep)
		wantError(t, c.open+strings.Repeat(c.one, 3000)+c.end, 0, api.ErrDeep)
		// Errors at tokens stand before it.
		wantError(t, more, len(more), api.ErrSyntax)
		wantErrorIn(t, more+c.end+" ¦x", api.ErrSyntax)
		wantErrorIn(t, more+c.end+" int x[¦0];", api.ErrSize)
	}
	// Types are no nodes: they may be deeper.
	wantOK(t, "int "+strings.Repeat("*", 19990)+"a;")
	wantOK(t, "int f(int "+strings.Repeat("*", 19980)+"a){}")
	wantOK(t, "int a"+strings.Repeat("[1]", 6000)+";")
	// What is wide isn't deep.
	wantOK(t, "void f(){"+strings.Repeat("a;", 9900)+"}")
	wantOK(t, strings.Repeat("int a;", 3000))
}

// P2.2.
func TestDepth(t *testing.T) {
	if d := parse.Depth(api.Node{}); d != 1 {
		t.Errorf("Depth of nothing is %d", d)
	}
	if d := parse.Depth(api.Node{Kind: -5, Kids: []api.Node{}, T: api.T{Of: []api.T{{Of: []api.T{{}}}}}}); d != 1 {
		t.Errorf("Depth without kids is %d", d)
	}
	leaf := api.Node{Kind: 99}
	for n, side := 1, leaf; n <= 400; n++ {
		want := min(n, 251)
		for _, l := range [][]api.Node{{side}, {side, leaf}, {leaf, side}, {leaf, side, leaf}, {side, side}} {
			if d := parse.Depth(api.Node{Kids: l}); d != min(n+1, 251) {
				t.Fatalf("Depth of %d levels is %d", n+1, d)
			}
		}
		if d := parse.Depth(side); d != want {
			t.Fatalf("Depth of %d levels is %d", n, d)
		}
		side = api.Node{N: int64(n), Kids: []api.Node{side}}
	}
	bush := leaf
	for n := 1; n <= 12; n++ {
		if d := parse.Depth(bush); d != n {
			t.Errorf("Depth of a bush of %d levels is %d", n, d)
		}
		bush = api.Node{Kids: []api.Node{leaf, {Kids: []api.Node{leaf}}, bush, leaf}}
		if n == 1 {
			bush = api.Node{Kids: []api.Node{leaf, leaf}}
		}
	}
	wide := api.Node{Kids: make([]api.Node, 100000)}
	if d := parse.Depth(wide); d != 2 {
		t.Errorf("Depth of a wide tree is %d", d)
	}
}

func TestDepthOfVeryDeepTrees(t *testing.T) {
	n := api.Node{}
	for range 60000 {
		n = api.Node{Kids: []api.Node{n}}
	}
	if d := parse.Depth(n); d != 251 {
		t.Errorf("Depth of 60001 levels is %d", d)
	}
	last := api.Node{Kids: []api.Node{{}, {}, n}}
	if d := parse.Depth(last); d != 251 {
		t.Errorf("Depth of a tree whose last kid is deep is %d", d)
	}
}

// Nodes may share their kids: as a tree, this one has 2 to the power of its levels leaves.
func TestDepthOfSharedKids(t *testing.T) {
	n := api.Node{}
	for i := 1; i <= 300; i++ {
		if d := parse.Depth(n); d != min(i, 251) {
			t.Fatalf("Depth of %d levels is %d", i, d)
		}
		n = api.Node{Kids: []api.Node{n, n, n}}
	}
	// The same list deep down, and less deep.
	low := api.Node{Kids: []api.Node{{}}}
	high := low
	for range 247 {
		high = api.Node{Kids: []api.Node{high, low}}
	}
	higher := high
	for range 100 {
		higher = api.Node{Kids: []api.Node{higher}}
	}
	for _, c := range []struct {
		l    []api.Node
		want int
	}{{[]api.Node{low, high}, 250}, {[]api.Node{high, low}, 250}, {[]api.Node{{Kids: []api.Node{high}}, low}, 251}, {[]api.Node{high, {Kids: []api.Node{high}}}, 251}, {[]api.Node{high, higher}, 251}, {[]api.Node{higher, high}, 251}} {
		if d := parse.Depth(api.Node{Kids: c.l}); d != c.want {
			t.Errorf("Depth is %d, want %d", d, c.want)
		}
	}
	// A list that holds itself never ends.
	ring := make([]api.Node, 2)
	ring[0].Kids, ring[1].Kids = ring[1:], ring
	if d := parse.Depth(api.Node{Kids: ring}); d != 251 {
		t.Errorf("Depth of a ring is %d", d)
	}
}
