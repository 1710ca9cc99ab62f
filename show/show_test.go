package show_test

import (
	"reflect"
	"strings"
	"testing"

	"crosstree/api"
	"crosstree/parse"
	"crosstree/show"
)

// read is the tree of a source.
func read(t *testing.T, s string) api.Node {
	t.Helper()
	n, at, e := parse.Parse(s)
	if e != api.OK {
		t.Fatalf("Parse(%.200q): %d, %d", s, at, e)
	}
	return n
}

// wantText checks that a tree's text is want.
func wantText(t *testing.T, n api.Node, want string) {
	t.Helper()
	if got := show.Text(n); got != want {
		t.Errorf("Text(%v) = %q, want %q", n, got, want)
	}
}

// wantUnit checks the text of a source's tree.
func wantUnit(t *testing.T, s, want string) {
	t.Helper()
	if got := show.Text(read(t, s)); got != want {
		t.Errorf("%q is written as %q, want %q", s, got, want)
	}
}

// wantStmt checks the text of a statement: alone, and one level deep in a function.
func wantStmt(t *testing.T, s, want string) {
	t.Helper()
	n := read(t, "void f() { "+s+" }")
	wantText(t, n.Kids[0].Kids[0].Kids[0], want)
	deeper := "  " + strings.ReplaceAll(strings.TrimSuffix(want, "\n"), "\n", "\n  ") + "\n"
	wantText(t, n, "void f()\n{\n"+deeper+"}\n")
}

// wantExpr checks the text of an expression, alone and as a statement.
func wantExpr(t *testing.T, s, want string) {
	t.Helper()
	n := read(t, "void f() { "+s+"; }").Kids[0].Kids[0].Kids[0]
	wantText(t, n.Kids[0], want)
	wantText(t, n, want+";\n")
}

// P3.1.

func TestNumbersAndNames(t *testing.T) {
	wantExpr(t, "0", "0")
	wantExpr(t, "'a'", "97")
	wantExpr(t, "0x1F", "31")
	wantExpr(t, "9223372036854775807", "9223372036854775807")
	wantExpr(t, "0x7fffffffffffffff", "9223372036854775807")
	wantExpr(t, "((a))", "a")
	wantExpr(t, "_long_Name_of_24_letters", "_long_Name_of_24_letters")
}

func TestAssignments(t *testing.T) {
	wantExpr(t, "a=b", "a = b")
	wantExpr(t, "a=(b=c)", "a = b = c")
	wantExpr(t, "(a=b)=c", "(a = b) = c")
	wantExpr(t, "a|b=c|d", "a | b = c | d")
	wantExpr(t, "(*p)=(1)", "*p = 1")
	wantExpr(t, "a+(b=c)", "a + (b = c)")
	wantExpr(t, "(a=b)|c", "(a = b) | c")
	wantExpr(t, "-(a=b)", "-(a = b)")
	wantExpr(t, "(int)(a=b)", "(int)(a = b)")
}

func TestUnaries(t *testing.T) {
	for _, sign := range []string{"-", "!", "~", "*", "&"} {
		wantExpr(t, sign+" a", sign+"a")
		wantExpr(t, sign+"(("+sign+" 1))", sign+sign+"1")
		wantExpr(t, sign+" sizeof ( int )", sign+"sizeof(int)")
		wantExpr(t, sign+"(int)a", sign+"(int)a")
		wantExpr(t, sign+"(a*b)", sign+"(a * b)")
		wantExpr(t, sign+"a*b", sign+"a * b")
		wantExpr(t, sign+"a[1]", sign+"a[1]")
		wantExpr(t, "("+sign+"a)[1]", "("+sign+"a)[1]")
		wantExpr(t, "("+sign+"a).b", "("+sign+"a).b")
		wantExpr(t, "("+sign+"a)->b", "("+sign+"a)->b")
		wantExpr(t, "("+sign+"a)()", "("+sign+"a)()")
	}
	wantExpr(t, "- - ! ~ * & a", "--!~*&a")
}

func TestCasts(t *testing.T) {
	wantExpr(t, "( char * ) a", "(char *)a")
	wantExpr(t, "(int)(long)a", "(int)(long)a")
	wantExpr(t, "(struct s**)-a", "(struct s **)-a")
	wantExpr(t, "(int(*)(char,long*))a", "(int (*)(char, long *))a")
	wantExpr(t, "(int)a+b", "(int)a + b")
	wantExpr(t, "(int)(a+b)", "(int)(a + b)")
	wantExpr(t, "(int)a[1]", "(int)a[1]")
	wantExpr(t, "((int)a)[1]", "((int)a)[1]")
	wantExpr(t, "((int(*)())a)()", "((int (*)())a)()")
}

func TestSizeof(t *testing.T) {
	wantExpr(t, "sizeof ( union u )", "sizeof(union u)")
	wantExpr(t, "sizeof(void*(*)(int))", "sizeof(void * (*)(int))")
	wantExpr(t, "sizeof(int)*2", "sizeof(int) * 2")
	wantExpr(t, "(sizeof(int))[1]", "(sizeof(int))[1]")
	wantExpr(t, "(sizeof(int)).a", "(sizeof(int)).a")
	wantExpr(t, "a[sizeof(int)]", "a[sizeof(int)]")
}

func TestPosts(t *testing.T) {
	wantExpr(t, "a [ 1 ]", "a[1]")
	wantExpr(t, "a[(b=c)]", "a[b = c]")
	wantExpr(t, "a[(b|c)][d]", "a[b | c][d]")
	wantExpr(t, "a . b", "a.b")
	wantExpr(t, "a -> b", "a->b")
	wantExpr(t, "(*p).x", "(*p).x")
	wantExpr(t, "*(p.x)", "*p.x")
	wantExpr(t, "1 .b", "1.b")
	wantExpr(t, "f ( )", "f()")
	wantExpr(t, "f((a))", "f(a)")
	wantExpr(t, "f(a,(b=c),d|e,(1),g(h))", "f(a, b = c, d | e, 1, g(h))")
	wantExpr(t, "(a+b)(c)", "(a + b)(c)")
	wantExpr(t, "((a.b)->c[1](2))[3].d", "a.b->c[1](2)[3].d")
}

// precedences is the chapter's table.
var precedences = []struct {
	sign  string
	level int
}{
	{"|", 1}, {"^", 2}, {"&", 3}, {"==", 4}, {"!=", 4}, {"<", 5}, {"<=", 5}, {">", 5}, {">=", 5},
	{"<<", 6}, {">>", 6}, {"+", 7}, {"-", 7}, {"*", 8}, {"/", 8}, {"%", 8},
}

func nameNode(s string) api.Node {
	return api.Node{Kind: api.NodeName, Text: s}
}

func binary(a api.Node, sign string, b api.Node) api.Node {
	return api.Node{Kind: api.NodeBinary, Text: sign, Kids: []api.Node{a, b}}
}

func TestBinaries(t *testing.T) {
	a, b, c := nameNode("a"), nameNode("b"), nameNode("c")
	for _, x := range precedences {
		wantText(t, binary(a, x.sign, b), "a "+x.sign+" b")
		for _, y := range precedences {
			left, right := "a "+x.sign+" b "+y.sign+" c", "a "+x.sign+" b "+y.sign+" c"
			if x.level < y.level {
				left = "(a " + x.sign + " b) " + y.sign + " c"
			}
			if y.level <= x.level {
				right = "a " + x.sign + " (b " + y.sign + " c)"
			}
			wantText(t, binary(binary(a, x.sign, b), y.sign, c), left)
			wantText(t, binary(a, x.sign, binary(b, y.sign, c)), right)
		}
	}
	wantExpr(t, "a/ *p", "a / *p")
	wantExpr(t, "a- -b", "a - -b")
	wantExpr(t, "a& &b", "a & &b")
	wantExpr(t, "a-b-c-d", "a - b - c - d")
	wantExpr(t, "(a|b)*(c|d)", "(a | b) * (c | d)")
	wantExpr(t, "x=(1+2)*-y", "x = (1 + 2) * -y")
}

// P3.2.

func pointer(t api.T) api.T {
	return api.T{Kind: api.TPtr, Of: []api.T{t}}
}

func array(n int, t api.T) api.T {
	return api.T{Kind: api.TArr, N: n, Of: []api.T{t}}
}

func pointerToFunc(l ...api.T) api.T {
	return pointer(api.T{Kind: api.TFunc, Of: l})
}

var (
	void, char   = api.T{Kind: api.TVoid}, api.T{Kind: api.TChar}
	int4, long   = api.T{Kind: api.TInt}, api.T{Kind: api.TLong}
	aStruct      = api.T{Kind: api.TStruct, Name: "s"}
	aUnion       = api.T{Kind: api.TUnion, Name: "u"}
	intFromInt   = pointerToFunc(int4, int4)
	nestedFromIt = pointerToFunc(pointer(pointer(aStruct)), intFromInt, pointer(void), pointerToFunc(void))
)

func TestDecl(t *testing.T) {
	for _, c := range []struct {
		t         api.T
		ask, decl string
	}{
		{void, "void", "void x"},
		{char, "char", "char x"},
		{int4, "int", "int x"},
		{long, "long", "long x"},
		{aStruct, "struct s", "struct s x"},
		{aUnion, "union u", "union u x"},
		{pointer(int4), "int *", "int * x"},
		{pointer(pointer(pointer(char))), "char ***", "char *** x"},
		{pointer(aUnion), "union u *", "union u * x"},
		{pointer(pointer(aStruct)), "struct s **", "struct s ** x"},
		{pointerToFunc(void), "void (*)()", "void (*x)()"},
		{intFromInt, "int (*)(int)", "int (*x)(int)"},
		{pointerToFunc(pointer(long), pointer(char), aStruct, long), "long * (*)(char *, struct s, long)", "long * (*x)(char *, struct s, long)"},
		{nestedFromIt, "struct s ** (*)(int (*)(int), void *, void (*)())", "struct s ** (*x)(int (*)(int), void *, void (*)())"},
		{pointerToFunc(int4, nestedFromIt), "int (*)(struct s ** (*)(int (*)(int), void *, void (*)()))", "int (*x)(struct s ** (*)(int (*)(int), void *, void (*)()))"},
	} {
		if got := show.Ask(c.t); got != c.ask {
			t.Errorf("Ask: %q, want %q", got, c.ask)
		}
		if got := show.Decl(c.t, "x"); got != c.decl {
			t.Errorf("Decl: %q, want %q", got, c.decl)
		}
	}
}

func TestDeclOfArrays(t *testing.T) {
	for _, c := range []struct {
		t    api.T
		want string
	}{
		{array(3, int4), "int y[3]"},
		{array(3, pointer(int4)), "int * y[3]"},
		{array(1, array(20, array(4096, aStruct))), "struct s y[1][20][4096]"},
		{array(5, array(4, pointer(pointer(aUnion)))), "union u ** y[5][4]"},
		{array(2, intFromInt), "int (*y[2])(int)"},
		{array(2, array(3, pointerToFunc(pointer(void)))), "void * (*y[2][3])()"},
		{array(7, nestedFromIt), "struct s ** (*y[7])(int (*)(int), void *, void (*)())"},
	} {
		if got := show.Decl(c.t, "y"); got != c.want {
			t.Errorf("Decl: %q, want %q", got, c.want)
		}
	}
}

// P3.3.

func TestLinesOfStatements(t *testing.T) {
	wantStmt(t, ";", "{\n}\n")
	wantStmt(t, "{}", "{\n}\n")
	wantStmt(t, "{a;{;b;}}", "{\n  a;\n  {\n    {\n    }\n    b;\n  }\n}\n")
	wantStmt(t, "return;", "return;\n")
	wantStmt(t, "return(1);", "return 1;\n")
	wantStmt(t, "return a=b;", "return a = b;\n")
	wantStmt(t, "break;", "break;\n")
	wantStmt(t, "continue;", "continue;\n")
	wantStmt(t, "int x;", "int x;\n")
	wantStmt(t, "int*x[2][3];", "int * x[2][3];\n")
	wantStmt(t, "int x=(y=1);", "int x = y = 1;\n")
	wantStmt(t, "struct s*(*x)(int)=&f;", "struct s * (*x)(int) = &f;\n")
	wantStmt(t, "char a[1]=b;", "char a[1] = b;\n")
	wantStmt(t, "(a);", "a;\n")
	wantStmt(t, "a=b;", "a = b;\n")
}

func TestChoices(t *testing.T) {
	wantStmt(t, "if(a)b;", "if (a)\n  b;\n")
	wantStmt(t, "if(a=b)return;else break;", "if (a = b)\n  return;\nelse\n  break;\n")
	wantStmt(t, "if((a)){}", "if (a)\n  {\n  }\n")
	wantStmt(t, "if(a){b;}else{c;}", "if (a)\n  {\n    b;\n  }\nelse\n  {\n    c;\n  }\n")
	wantStmt(t, "if(a);else if(b)c;else d;", "if (a)\n  {\n  }\nelse\n  if (b)\n    c;\n  else\n    d;\n")
	wantStmt(t, "if(a)if(b)c;else d;", "if (a)\n  if (b)\n    c;\n  else\n    d;\n")
	wantStmt(t, "if(a)if(b)c;else d;else e;", "if (a)\n  if (b)\n    c;\n  else\n    d;\nelse\n  e;\n")
	wantStmt(t, "if(a){if(b)c;}else d;", "if (a)\n  {\n    if (b)\n      c;\n  }\nelse\n  d;\n")
	wantStmt(t, "if(a)int x;else int y=1;", "if (a)\n  int x;\nelse\n  int y = 1;\n")
}

func TestLoops(t *testing.T) {
	wantStmt(t, "while(1)a;", "while (1)\n  a;\n")
	wantStmt(t, "while(a=b);", "while (a = b)\n  {\n  }\n")
	wantStmt(t, "while(a)while(b){continue;}", "while (a)\n  while (b)\n    {\n      continue;\n    }\n")
	wantStmt(t, "while(a)if(b)break;else;", "while (a)\n  if (b)\n    break;\n  else\n    {\n    }\n")
}

// P3.4.

func TestUnits(t *testing.T) {
	wantUnit(t, "", "")
	wantUnit(t, " // nothing", "")
	wantUnit(t, "int a;char*b[2];", "int a;\nchar * b[2];\n")
	wantUnit(t, "int(*a[2])(int,char);", "int (*a[2])(int, char);\n")
	wantUnit(t, "struct s{};", "struct s {\n};\n")
	wantUnit(t, "union u{int a;struct s*b[2];void(*f)();};", "union u {\n  int a;\n  struct s * b[2];\n  void (*f)();\n};\n")
	wantUnit(t, "int f(){}", "int f()\n{\n}\n")
	wantUnit(t, "void f(int a){;}", "void f(int a)\n{\n  {\n  }\n}\n")
	wantUnit(t, "struct s**f(int*a[2],char(*b)(long),union u c){return 0;}", "struct s ** f(int * a[2], char (*b)(long), union u c)\n{\n  return 0;\n}\n")
	wantUnit(t, "int a;struct s{int b;};int main(){return a;}long c;void g(){}", "int a;\nstruct s {\n  int b;\n};\nint main()\n{\n  return a;\n}\nlong c;\nvoid g()\n{\n}\n")
}

func TestTextsOfItems(t *testing.T) {
	n := read(t, "int a[2]; struct s { int b; char * c; }; long * main(int d, char e[1]) { if (d) return 1; }")
	items := []string{
		"int a[2];\n",
		"struct s {\n  int b;\n  char * c;\n};\n",
		"long * main(int d, char e[1])\n{\n  if (d)\n    return 1;\n}\n",
	}
	wantText(t, n, strings.Join(items, ""))
	for i, k := range n.Kids {
		wantText(t, k, items[i])
	}
	wantText(t, n.Kids[1].Kids[0], "int b;\n")
	wantText(t, n.Kids[1].Kids[1], "char * c;\n")
	wantText(t, n.Kids[2].Kids[0], "int d;\n")
	wantText(t, n.Kids[2].Kids[1], "char e[1];\n")
	wantText(t, n.Kids[2].Kids[2], "{\n  if (d)\n    return 1;\n}\n")
	wantText(t, n.Kids[2].Kids[2].Kids[0], "if (d)\n  return 1;\n")
	wantText(t, n.Kids[2].Kids[2].Kids[0].Kids[0], "d")
	wantText(t, n.Kids[2].Kids[2].Kids[0].Kids[1], "return 1;\n")
}

// R3, R4: arguments stay as they are, and the same is answered each time.
func TestNothingIsChanged(t *testing.T) {
	const s = "struct s { int (*f[2])(int, char *); }; int main(int a[3], long b) { int x = a = b + 1; if (x) f(a, (b = 1)); else { ; } return sizeof(int (*)()); }"
	n, kept := read(t, s), read(t, s)
	first := show.Text(n)
	for range 5 {
		if again := show.Text(n); again != first {
			t.Fatalf("%q, then %q", first, again)
		}
	}
	show.Decl(n.Kids[0].Kids[0].T, "f")
	show.Ask(n.Kids[0].Kids[0].T.Of[0])
	if !reflect.DeepEqual(n, kept) {
		t.Errorf("the tree became %v", n)
	}
}
