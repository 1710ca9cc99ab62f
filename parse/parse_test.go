package parse_test

import (
	"reflect"
	"strconv"
	"strings"
	"testing"

	"crosstree/api"
	"crosstree/parse"
)

// wantError checks that s is answered with an error, its offset, and nothing else.
func wantError(t *testing.T, s string, at int, e api.Errno) {
	t.Helper()
	n, gotAt, gotE := parse.Parse(s)
	if !reflect.DeepEqual(n, api.Node{}) || gotAt != at || gotE != e {
		t.Errorf("Parse(%.200q) = %.200s, %d, %d, want none, %d, %d", s, write(n), gotAt, gotE, at, e)
	}
}

// wantTree checks that s is read as the tree that is written as want.
func wantTree(t *testing.T, s, want string) {
	t.Helper()
	n, at, e := parse.Parse(s)
	if got := write(n); got != want || at != 0 || e != api.OK {
		t.Errorf("Parse(%.200q) = %s, %d, %d, want %s", s, got, at, e, want)
	}
}

// wantOK checks that s is read without an error.
func wantOK(t *testing.T, s string) {
	t.Helper()
	n, at, e := parse.Parse(s)
	if n.Kind != api.NodeUnit || at != 0 || e != api.OK {
		t.Errorf("Parse(%.200q) = kind %d, %d, %d, want a unit", s, n.Kind, at, e)
	}
}

// wantExpr checks that an expression is read as the tree that is written as want.
func wantExpr(t *testing.T, s, want string) {
	t.Helper()
	wantTree(t, "int f(){"+s+";}", "unit(func:f<func(int)>(block(expr("+want+"))))")
}

// wantStmt checks that a statement is read as the tree that is written as want.
func wantStmt(t *testing.T, s, want string) {
	t.Helper()
	wantTree(t, "void f(){ "+s+" }", "unit(func:f<func(void)>(block("+want+")))")
}

var kindNames = []string{"?", "number", "name", "unary", "binary", "assign", "index", "dot", "arrow", "call", "cast", "sizeof", "expr", "decl",
	"if", "while", "return", "block", "break", "next", "record", "global", "func", "unit"}

var typeNames = []string{"?", "void", "char", "int", "long", "ptr", "arr", "struct", "union", "func"}

// write writes a tree with every field of its nodes.
func write(n api.Node) string {
	s := kindNames[n.Kind]
	if n.Text != "" {
		s += ":" + n.Text
	}
	if n.N != 0 {
		s += "#" + strconv.FormatInt(n.N, 10)
	}
	if !reflect.DeepEqual(n.T, api.T{}) {
		s += "<" + writeType(n.T) + ">"
	}
	return s + writeAll(n.Kids, write)
}

func writeType(t api.T) string {
	s := typeNames[t.Kind]
	if t.Name != "" {
		s += ":" + t.Name
	}
	if t.N != 0 {
		s += "#" + strconv.Itoa(t.N)
	}
	return s + writeAll(t.Of, writeType)
}

func writeAll[E any](l []E, one func(E) string) string {
	if len(l) == 0 {
		return ""
	}
	var s []string
	for _, x := range l {
		s = append(s, one(x))
	}
	return "(" + strings.Join(s, " ") + ")"
}

// Items.

func TestUnits(t *testing.T) {
	wantTree(t, "", "unit")
	wantTree(t, " // nothing\n", "unit")
	wantTree(t, "int a; char b;", "unit(global:a<int> global:b<char>)")
	wantTree(t, "long a; struct s { }; void f() { } union u b;",
		"unit(global:a<long> record<struct:s> func:f<func(void)>(block) global:b<union:u>)")
}

func TestRecords(t *testing.T) {
	wantTree(t, "struct s { };", "unit(record<struct:s>)")
	wantTree(t, "union u { int a; char b[4]; };", "unit(record<union:u>(decl:a<int> decl:b<arr#4(char)>))")
	wantTree(t, "struct s { struct s *next; union u x[2][3]; int (*f)(); };",
		"unit(record<struct:s>(decl:next<ptr(struct:s)> decl:x<arr#2(arr#3(union:u))> decl:f<ptr(func(int))>))")
	wantTree(t, "struct s { void a; };", "unit(record<struct:s>(decl:a<void>))")
}

func TestGlobals(t *testing.T) {
	for in, out := range map[string]string{
		"void a;":            "void",
		"char a;":            "char",
		"int a;":             "int",
		"long a;":            "long",
		"struct s a;":        "struct:s",
		"union u a;":         "union:u",
		"int *a;":            "ptr(int)",
		"struct s ***a;":     "ptr(ptr(ptr(struct:s)))",
		"int a[3];":          "arr#3(int)",
		"int a['a'];":        "arr#97(int)",
		"int a[0x10];":       "arr#16(int)",
		"int *a[3];":         "arr#3(ptr(int))",
		"int a[1][2][3];":    "arr#1(arr#2(arr#3(int)))",
		"char **a[5][4096];": "arr#5(arr#4096(ptr(ptr(char))))",
	} {
		wantTree(t, in, "unit(global:a<"+out+">)")
	}
}

func TestPointersToFunctions(t *testing.T) {
	for in, out := range map[string]string{
		"int (*a)();":                               "ptr(func(int))",
		"int (*a)(void);":                           "ptr(func(int void))",
		"long (*a)(int, char *);":                   "ptr(func(long int ptr(char)))",
		"void **(*a)(struct s, union u **);":        "ptr(func(ptr(ptr(void)) struct:s ptr(ptr(union:u))))",
		"int (*a[2])();":                            "arr#2(ptr(func(int)))",
		"int *(*a[2][3])(char);":                    "arr#2(arr#3(ptr(func(ptr(int) char))))",
		"int (*a)(int (*)());":                      "ptr(func(int ptr(func(int))))",
		"int (*a)(char *(*)(long, int), void *);":   "ptr(func(int ptr(func(ptr(char) long int)) ptr(void)))",
		"int (*a)(int (*)(int (*)(int)));":          "ptr(func(int ptr(func(int ptr(func(int int))))))",
		"struct s (*a)(int,int,int,int,int,char);":  "ptr(func(struct:s int int int int int char))",
		"struct s (*a)(int, union u *(*)(long *));": "ptr(func(struct:s int ptr(func(ptr(union:u) ptr(long)))))",
	} {
		wantTree(t, in, "unit(global:a<"+out+">)")
	}
}

func TestFunctions(t *testing.T) {
	wantTree(t, "void f(){}", "unit(func:f<func(void)>(block))")
	wantTree(t, "struct s **f(){}", "unit(func:f<func(ptr(ptr(struct:s)))>(block))")
	wantTree(t, "int f(int a){}", "unit(func:f<func(int int)>(decl:a<int> block))")
	wantTree(t, "int f(void v, char *b[2], int (*g[3])(long)){;}",
		"unit(func:f<func(int void arr#2(ptr(char)) arr#3(ptr(func(int long))))>(decl:v<void> decl:b<arr#2(ptr(char))> decl:g<arr#3(ptr(func(int long)))> block(block)))")
	wantTree(t, "int f(int a, int b, int c, int d, int e, int g){}",
		"unit(func:f<func(int int int int int int int)>(decl:a<int> decl:b<int> decl:c<int> decl:d<int> decl:e<int> decl:g<int> block))")
}

// Statements.

func TestStatements(t *testing.T) {
	for in, out := range map[string]string{
		";":                        "block",
		"{}":                       "block",
		"{;{}}":                    "block(block block)",
		"a;":                       "expr(name:a)",
		"a;b;":                     "expr(name:a) expr(name:b)",
		"return;":                  "return",
		"return a;":                "return(name:a)",
		"break;":                   "break",
		"continue;":                "next",
		"while(a)b;":               "while(name:a expr(name:b))",
		"while(a){b;c;}":           "while(name:a block(expr(name:b) expr(name:c)))",
		"while(a);":                "while(name:a block)",
		"while(a=b)while(c)break;": "while(assign(name:a name:b) while(name:c break))",
		"int a;":                   "decl:a<int>",
		"int a=b;":                 "decl:a<int>(name:b)",
		"int *a[2]=b=c;":           "decl:a<arr#2(ptr(int))>(assign(name:b name:c))",
		"struct s a;":              "decl:a<struct:s>",
		"union u *a=0;":            "decl:a<ptr(union:u)>(number)",
		"void (*a)(int)=&f;":       "decl:a<ptr(func(void int))>(unary:&(name:f))",
		"if(a)b;":                  "if(name:a expr(name:b))",
		"if(a);else b;":            "if(name:a block expr(name:b))",
		"if(a)int x;else int y;":   "if(name:a decl:x<int> decl:y<int>)",
		"if(a)b;c;":                "if(name:a expr(name:b)) expr(name:c)",
		"if(a=1)return;":           "if(assign(name:a number#1) return)",
		"sizeof(int);":             "expr(sizeof<int>)",
		"(int)a;":                  "expr(cast<int>(name:a))",
		"while(a)int x=b;":         "while(name:a decl:x<int>(name:b))",
	} {
		wantStmt(t, in, out)
	}
}

func TestElseBelongsToTheNearestIf(t *testing.T) {
	wantStmt(t, "if(a)if(b)c;else d;", "if(name:a if(name:b expr(name:c) expr(name:d)))")
	wantStmt(t, "if(a)if(b)c;else d;else e;", "if(name:a if(name:b expr(name:c) expr(name:d)) expr(name:e))")
	wantStmt(t, "if(a)while(w)if(b)c;else d;", "if(name:a while(name:w if(name:b expr(name:c) expr(name:d))))")
	wantStmt(t, "if(a){if(b)c;}else d;", "if(name:a block(if(name:b expr(name:c))) expr(name:d))")
	wantStmt(t, "if(a)b;else if(c)d;else e;", "if(name:a expr(name:b) if(name:c expr(name:d) expr(name:e)))")
	wantStmt(t, "if(a)b;else if(c)if(d);else;", "if(name:a expr(name:b) if(name:c if(name:d block block)))")
}

// Expressions.

func TestTerms(t *testing.T) {
	wantExpr(t, "a", "name:a")
	wantExpr(t, "malloc", "name:malloc")
	wantExpr(t, "0", "number")
	wantExpr(t, "0x1F", "number#31")
	wantExpr(t, "'a'", "number#97")
	wantExpr(t, "'('", "number#40")
	wantExpr(t, "'='", "number#61")
	wantExpr(t, "9223372036854775807", "number#9223372036854775807")
	wantExpr(t, "(a)", "name:a")
	wantExpr(t, "(((1)))", "number#1")
}

func TestBinaryOperators(t *testing.T) {
	rows := [][]string{{"|"}, {"^"}, {"&"}, {"==", "!="}, {"<", "<=", ">", ">="}, {"<<", ">>"}, {"+", "-"}, {"*", "/", "%"}}
	for i, row := range rows {
		for _, x := range row {
			wantExpr(t, "a"+x+"b", "binary:"+x+"(name:a name:b)")
			for j, other := range rows {
				for _, y := range other {
					left := "binary:" + y + "(binary:" + x + "(name:a name:b) name:c)"
					right := "binary:" + x + "(name:a binary:" + y + "(name:b name:c))"
					if i < j {
						wantExpr(t, "a "+x+" b "+y+" c", right)
					} else {
						wantExpr(t, "a "+x+" b "+y+" c", left)
					}
					wantExpr(t, "(a "+x+" b) "+y+" c", left)
					wantExpr(t, "a "+x+" (b "+y+" c)", right)
				}
			}
		}
	}
	wantExpr(t, "a|b^c&d==e<f<<g+h*i", "binary:|(name:a binary:^(name:b binary:&(name:c binary:==(name:d binary:<(name:e binary:<<(name:f binary:+(name:g binary:*(name:h name:i))))))))")
	wantExpr(t, "a*b+c<<d<e==f&g^h|i", "binary:|(binary:^(binary:&(binary:==(binary:<(binary:<<(binary:+(binary:*(name:a name:b) name:c) name:d) name:e) name:f) name:g) name:h) name:i)")
	wantExpr(t, "a-b-c-d", "binary:-(binary:-(binary:-(name:a name:b) name:c) name:d)")
}

func TestAssignments(t *testing.T) {
	wantExpr(t, "a=b", "assign(name:a name:b)")
	wantExpr(t, "a=b=c", "assign(name:a assign(name:b name:c))")
	wantExpr(t, "(a=b)=c", "assign(assign(name:a name:b) name:c)")
	wantExpr(t, "a|b=c|d", "assign(binary:|(name:a name:b) binary:|(name:c name:d))")
	wantExpr(t, "1=2", "assign(number#1 number#2)")
	wantExpr(t, "a+(b=c)", "binary:+(name:a assign(name:b name:c))")
	wantExpr(t, "a==b=c!=d", "assign(binary:==(name:a name:b) binary:!=(name:c name:d))")
	wantExpr(t, "-a=*b", "assign(unary:-(name:a) unary:*(name:b))")
}

func TestUnaryOperators(t *testing.T) {
	for _, x := range []string{"-", "!", "~", "*", "&"} {
		wantExpr(t, x+"a", "unary:"+x+"(name:a)")
		wantExpr(t, x+x+"a", "unary:"+x+"(unary:"+x+"(name:a))")
		wantExpr(t, x+"a[b]", "unary:"+x+"(index(name:a name:b))")
		wantExpr(t, "("+x+"a)[b]", "index(unary:"+x+"(name:a) name:b)")
		wantExpr(t, x+"a*"+x+"b", "binary:*(unary:"+x+"(name:a) unary:"+x+"(name:b))")
		wantExpr(t, x+"(int)a", "unary:"+x+"(cast<int>(name:a))")
		wantExpr(t, x+"sizeof(int)", "unary:"+x+"(sizeof<int>)")
		wantExpr(t, x+"(a+b)", "unary:"+x+"(binary:+(name:a name:b))")
	}
	wantExpr(t, "a- -b", "binary:-(name:a unary:-(name:b))")
	wantExpr(t, "a&&b", "binary:&(name:a unary:&(name:b))")
	wantExpr(t, "-!~*&1", "unary:-(unary:!(unary:~(unary:*(unary:&(number#1)))))")
}

func TestCastsAndSizes(t *testing.T) {
	for in, out := range map[string]string{
		"void": "void", "char": "char", "int": "int", "long": "long", "struct s": "struct:s", "union u": "union:u",
		"int *": "ptr(int)", "struct s **": "ptr(ptr(struct:s))",
		"int (*)()": "ptr(func(int))", "char *(*)(int, union u)": "ptr(func(ptr(char) int union:u))",
		"void (*)(void (*)(void), long)": "ptr(func(void ptr(func(void void)) long))",
	} {
		wantExpr(t, "("+in+")a", "cast<"+out+">(name:a)")
		wantExpr(t, "sizeof("+in+")", "sizeof<"+out+">")
		wantExpr(t, "("+in+")(a)", "cast<"+out+">(name:a)")
	}
	wantExpr(t, "(int)a.b", "cast<int>(dot:b(name:a))")
	wantExpr(t, "((int)a).b", "dot:b(cast<int>(name:a))")
	wantExpr(t, "(int)a+b", "binary:+(cast<int>(name:a) name:b)")
	wantExpr(t, "(int)-(char)a", "cast<int>(unary:-(cast<char>(name:a)))")
	wantExpr(t, "(sizeof(int))", "sizeof<int>")
	wantExpr(t, "(sizeof(int)-1)", "binary:-(sizeof<int> number#1)")
	wantExpr(t, "(int)sizeof(char)*2", "binary:*(cast<int>(sizeof<char>) number#2)")
}

func TestWhatStandsBehindATerm(t *testing.T) {
	wantExpr(t, "a[b]", "index(name:a name:b)")
	wantExpr(t, "a[b=c]", "index(name:a assign(name:b name:c))")
	wantExpr(t, "a[b][c]", "index(index(name:a name:b) name:c)")
	wantExpr(t, "a[b[c]]", "index(name:a index(name:b name:c))")
	wantExpr(t, "a.b", "dot:b(name:a)")
	wantExpr(t, "a->b", "arrow:b(name:a)")
	wantExpr(t, "a.b->c.d", "dot:d(arrow:c(dot:b(name:a)))")
	wantExpr(t, "a()", "call(name:a)")
	wantExpr(t, "a(b)", "call(name:a name:b)")
	wantExpr(t, "a(b,c=d)", "call(name:a name:b assign(name:c name:d))")
	wantExpr(t, "a(1,2,3,4,5,6)", "call(name:a number#1 number#2 number#3 number#4 number#5 number#6)")
	wantExpr(t, "a()(b)()", "call(call(call(name:a) name:b))")
	wantExpr(t, "a(b(c),d())", "call(name:a call(name:b name:c) call(name:d))")
	wantExpr(t, "(*a)(b)", "call(unary:*(name:a) name:b)")
	wantExpr(t, "1(2)[3].a->b", "arrow:b(dot:a(index(call(number#1 number#2) number#3)))")
	wantExpr(t, "(a)(b)", "call(name:a name:b)")
	wantExpr(t, "(a=b)(c)", "call(assign(name:a name:b) name:c)")
}

// P2.3: nothing is shared, and nothing is kept.

func TestPartsShareNoMemory(t *testing.T) {
	const s = `struct s { char *a[2][3]; int (*f)(int *, char (*)(long **)); };
		int *f(char **p, int (*g[2])(char *, struct s *), struct s *q) { int *x = (char *)p[1](2, q->a.b, g(3, 4)); if (x) return; else { ; } while (1) { } }`
	n, _, e := parse.Parse(s)
	if e != api.OK {
		t.Fatal(e)
	}
	want := write(n)
	nodes, types := map[*api.Node]int{}, map[*api.T]int{}
	var walkType func(u api.T)
	walkType = func(u api.T) {
		count(types, u.Of)
		for _, k := range u.Of {
			walkType(k)
		}
	}
	var walk func(n api.Node)
	walk = func(n api.Node) {
		count(nodes, n.Kids)
		walkType(n.T)
		for _, k := range n.Kids {
			walk(k)
		}
	}
	walk(n)
	for _, c := range nodes {
		if c > 1 {
			t.Error("lists of nodes share memory")
		}
	}
	for _, c := range types {
		if c > 1 {
			t.Error("lists of types share memory")
		}
	}
	spoil(n)
	wantTree(t, s, want)
}

// count counts the places of a list, with those that it may grow into.
func count[E any](m map[*E]int, l []E) {
	l = l[:cap(l)]
	for i := range l {
		m[&l[i]]++
	}
}

// spoil overwrites all parts of a tree.
func spoil(n api.Node) {
	for i, k := range n.Kids {
		spoil(k)
		n.Kids[i] = api.Node{Kind: 99}
	}
	for i := range n.T.Of {
		n.T.Of[i] = api.T{Kind: 99}
	}
}
