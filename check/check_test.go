package check_test

import (
	"slices"
	"strconv"
	"strings"
	"testing"

	"crosstree/api"
	"crosstree/check"
	"crosstree/ctype"
	"crosstree/layout"
	"crosstree/parse"
)

var (
	void  = api.T{Kind: api.TVoid}
	char  = api.T{Kind: api.TChar}
	int4  = api.T{Kind: api.TInt}
	long  = api.T{Kind: api.TLong}
	recS  = api.T{Kind: api.TStruct, Name: "s"}
	recU  = api.T{Kind: api.TUnion, Name: "u"}
	recE  = api.T{Kind: api.TStruct, Name: "e"}
	recNo = api.T{Kind: api.TStruct, Name: "no"}
)

func pointer(t api.T) api.T {
	return api.T{Kind: api.TPtr, Of: []api.T{t}}
}

func array(n int, t api.T) api.T {
	return api.T{Kind: api.TArr, N: n, Of: []api.T{t}}
}

func function(l ...api.T) api.T {
	return api.T{Kind: api.TFunc, Of: l}
}

// same reports whether two types are equal.
func same(t, u api.T) bool {
	return t.Kind == u.Kind && t.N == u.N && t.Name == u.Name && slices.EqualFunc(t.Of, u.Of, same)
}

// sameNode reports whether two trees are equal.
func sameNode(n, m api.Node) bool {
	return n.Kind == m.Kind && n.Text == m.Text && n.N == m.N && same(n.T, m.T) && slices.EqualFunc(n.Kids, m.Kids, sameNode)
}

func sameRec(r, q api.Rec) bool {
	return same(r.T, q.T) && r.Size == q.Size && r.Align == q.Align && slices.EqualFunc(r.Fields, q.Fields, func(f, g api.Field) bool {
		return f.Name == g.Name && f.Off == g.Off && same(f.T, g.T)
	})
}

// shortened is what tells sources apart.
func shortened(s string) string {
	s, _ = strings.CutPrefix(s, head)
	return s[max(0, len(s)-200):]
}

func parsed(t *testing.T, s string) api.Node {
	t.Helper()
	n, at, e := parse.Parse(s)
	if e != api.OK {
		t.Fatalf("%s: Parse has the error %d at %d", shortened(s), e, at)
	}
	return n
}

// wantError checks a source, and holds that beside the error all results are zero.
func wantError(t *testing.T, s string, at int, e api.Errno) {
	t.Helper()
	n, recs, i, got := check.Check(parsed(t, s))
	if got != e || i != at {
		t.Errorf("%s: error %d at %d, want %d at %d", shortened(s), got, i, e, at)
	}
	if !sameNode(n, api.Node{}) || len(recs) > 0 {
		t.Errorf("%s: a unit or records beside an error", shortened(s))
	}
}

// wantOK checks a source that is valid.
func wantOK(t *testing.T, s string) api.Node {
	t.Helper()
	n, _, at, e := check.Check(parsed(t, s))
	if e != api.OK || at != 0 {
		t.Errorf("%s: error %d at %d", shortened(s), e, at)
	}
	return n
}

// head has a name for everything that an expression may be made of. Its items are 26, and the function that follows is the next one.
const head = `union u { char c; int i; }; struct e { }; struct s { int a; struct s *n; long b[3]; union u m; struct e z; };
char c; int i; long l; int *p; char *r; void *w; struct s v; struct s *k; union u o; struct e z; struct e *y; struct no *x;
int a[3]; struct s m[2]; int b[2][3]; int *pp[2]; int (*q)(int, char *); void (*h)(); struct s (*j)(); struct no (*d)();
int f(int x, char *y) { return x; } void g() { } int *t(void *x) { return 0; }
`

const headItems = 26

// within is a unit with these statements in its main.
func within(body string) string {
	return head + "int main() { " + body + " return 0; }"
}

// wantTypes checks expressions, each with its type.
func wantTypes(t *testing.T, l map[string]api.T) {
	t.Helper()
	for s, want := range l {
		n := wantOK(t, within(s+";"))
		if n.Kind == 0 {
			continue
		}
		if got := n.Kids[headItems].Kids[0].Kids[0].Kids[0].T; !same(got, want) {
			t.Errorf("%s is of type %v, want %v", s, got, want)
		}
	}
}

// wantWrong checks statements that aren't valid in a main that returns an int.
func wantWrong(t *testing.T, l ...string) {
	t.Helper()
	for _, s := range l {
		wantError(t, within(s), headItems, api.ErrType)
	}
}

// wantWrongs checks expressions that aren't valid, as statements and within others.
func wantWrongs(t *testing.T, l ...string) {
	t.Helper()
	for _, s := range l {
		wantWrong(t, s+";", "l = "+s+";", "{ if (i) ; else while (1) f(1 + (long)("+s+"), 0); }", "int n = "+s+";")
	}
}

func wantStatements(t *testing.T, l ...string) {
	t.Helper()
	for _, s := range l {
		wantOK(t, within(s))
	}
}

// P7.2: the rows of the table of expressions.

func TestNumbersAndSizeofs(t *testing.T) {
	wantTypes(t, map[string]api.T{"0": long, "5": long, "0x7fffffffffffffff": long, "sizeof(int)": long, "sizeof(struct s)": long, "sizeof(void *)": long, "sizeof(struct no *)": long, "sizeof(int (*)(long))": long})
	wantWrongs(t, "sizeof(void)", "sizeof(struct no)", "sizeof(union s)", "sizeof(int"+strings.Repeat("*", 60)+")", "sizeof(int (*)(struct s))")
	wantStatements(t, "sizeof(int"+strings.Repeat("*", 59)+");")
}

func TestNames(t *testing.T) {
	wantTypes(t, map[string]api.T{
		"c": char, "i": int4, "l": long, "p": pointer(int4), "w": pointer(void), "v": recS, "o": recU, "z": recE, "x": pointer(recNo), "a": array(3, int4), "b": array(2, array(3, int4)), "m": array(2, recS),
		"q": pointer(function(int4, int4, pointer(char))), "j": pointer(function(recS)), "f": function(int4, int4, pointer(char)), "g": function(void), "t": function(pointer(int4), pointer(void)), "main": function(int4),
	})
	wantWrongs(t, "nobody", "malloc", "free", "memcpy", "memset", "input", "s", "u", "no")
}

func TestUnarySigns(t *testing.T) {
	for _, sign := range []string{"-", "~"} {
		for _, s := range []string{"c", "i", "l", "0", "*p", "a[0]", "sizeof(int)", "-i", "f(1, 0)"} {
			wantTypes(t, map[string]api.T{sign + s: long})
		}
		for _, s := range []string{"p", "w", "v", "o", "a", "f", "q", "g()", "v.b"} {
			wantWrongs(t, sign+s)
		}
	}
	for _, s := range []string{"c", "i", "l", "0", "p", "w", "x", "a", "b", "m", "f", "g", "q", "main", "v.b", "!i"} {
		wantTypes(t, map[string]api.T{"!" + s: long})
	}
	for _, s := range []string{"v", "o", "g()", "h()", "j()", "malloc", "*k", "free(p)"} {
		wantWrongs(t, "!"+s)
	}
}

func TestPlacesOfPointers(t *testing.T) {
	wantTypes(t, map[string]api.T{
		"*p": int4, "*r": char, "*k": recS, "*y": recE, "*a": int4, "*m": recS, "*b": array(3, int4), "**b": int4, "*pp": pointer(int4), "**pp": int4, "*v.b": long, "*(p + 1)": int4, "*(int *)l": int4,
		"*q": function(int4, int4, pointer(char)), "**q": function(int4, int4, pointer(char)), "*f": function(int4, int4, pointer(char)), "***f": function(int4, int4, pointer(char)), "*g": function(void), "*main": function(int4),
		"*d": function(recNo), "*t(0)": int4, "*&i": int4, "*(p = 0)": int4,
	})
	wantWrongs(t, "*w", "*x", "*i", "*0", "*l", "*v", "*o", "*g()", "***p", "**p", "***b", "*(void *)p", "*malloc", "*malloc(8)", "*d()")
}

func TestAddresses(t *testing.T) {
	wantTypes(t, map[string]api.T{
		"&i": pointer(int4), "&p": pointer(pointer(int4)), "&v": pointer(recS), "&a": pointer(array(3, int4)), "&b": pointer(array(2, array(3, int4))), "&q": pointer(pointer(function(int4, int4, pointer(char)))),
		"&f": pointer(function(int4, int4, pointer(char))), "&g": pointer(function(void)), "&main": pointer(function(int4)), "&a[1]": pointer(int4), "&b[1]": pointer(array(3, int4)), "&*p": pointer(int4), "&**pp": pointer(int4),
		"&k->n": pointer(pointer(recS)), "&k->b": pointer(array(3, long)), "&v.m": pointer(recU), "&v.m.i": pointer(int4), "&(*k).a": pointer(int4), "&m[1].b[2]": pointer(long), "&x": pointer(pointer(recNo)), "&y[5]": pointer(recE), "&k->m.c": pointer(char),
	})
	wantWrongs(t, "&1", "&1000", "&2000", "&3001", "&sizeof(int)", "&&i", "&-i", "&(i + 1)", "&(i = 1)", "&(long)i", "&f(1, 0)", "&*f", "&*q", "&**q", "&malloc", "&j().a", "&j()", "&(v = v).a", "&(v = v)", "&(v = v).m.i", "&(p = p)", "&nobody", "&v.nobody", "&!i")
	wantTypes(t, map[string]api.T{"&(v = v).b[1]": pointer(long), "&j().n->a": pointer(int4)})
}

func TestAddressesOfDeepTypes(t *testing.T) {
	for n, ok := range map[int]bool{58: true, 59: false} { // with int, 59 and 60 types
		s := "int " + strings.Repeat("*", n) + "z;"
		wantStatements(t, s+" z = 0;")
		if ok {
			wantStatements(t, s+" &z;")
		} else {
			wantWrong(t, s+" &z;")
		}
	}
	// A function's type may be as deep, and its name is a pointer still, but its address isn't to be had.
	for n, ok := range map[int]bool{56: true, 57: true, 58: false} {
		s := "int " + strings.Repeat("*", n) + "z() { return 0; } int main() { "
		wantOK(t, s+"!z; z() == 0; *z; return 0; }")
		if ok {
			wantOK(t, s+"&z; return 0; }")
		} else {
			wantError(t, s+"&z; return 0; }", 1, api.ErrType)
		}
	}
}

func TestSums(t *testing.T) {
	wantTypes(t, map[string]api.T{
		"1 + 2": long, "c + i": long, "l + c": long, "i + i": long,
		"p + 1": pointer(int4), "p + c": pointer(int4), "1 + p": pointer(int4), "l + r": pointer(char), "a + 1": pointer(int4), "1 + a": pointer(int4), "b + i": pointer(array(3, int4)), "m + 1": pointer(recS), "k + 1": pointer(recS), "y + 1": pointer(recE), "v.b + 2": pointer(long), "0 + pp": pointer(pointer(int4)), "&x + 1": pointer(pointer(recNo)), "&q + 1": pointer(pointer(function(int4, int4, pointer(char)))),
	})
	wantWrongs(t, "p + p", "w + 1", "1 + w", "x + 1", "1 + x", "q + 1", "f + 1", "1 + f", "v + 1", "1 + v", "g() + 1", "1 + g()", "p + v", "v + p", "a + a", "p + w", "h + 0", "0 + j")
}

func TestDifferences(t *testing.T) {
	wantTypes(t, map[string]api.T{
		"1 - 2": long, "c - l": long, "p - 1": pointer(int4), "a - i": pointer(int4), "b - 1": pointer(array(3, int4)), "k - l": pointer(recS), "y - 0": pointer(recE),
		"p - p": long, "p - a": long, "a - &a[1]": long, "k - m": long, "y - &z": long, "&b[1] - b": long, "pp - &p": long, "v.b - &l": long, "&x - &x": long,
	})
	wantWrongs(t, "1 - p", "i - a", "w - 1", "x - 1", "w - w", "x - x", "q - q", "f - f", "f - 1", "p - r", "k - y", "p - w", "w - p", "b - a", "p - pp", "v - v", "v - 1", "1 - v", "p - 0 - v", "g() - g()", "1 - f")
}

func TestOtherArithmetic(t *testing.T) {
	for _, sign := range []string{"*", "/", "%", "&", "|", "^", "<<", ">>"} {
		for _, s := range []string{"1 S 2", "c S i", "l S 0", "*p S a[1]", "f(1, 0) S sizeof(int)"} {
			wantTypes(t, map[string]api.T{strings.ReplaceAll(s, "S", sign): long})
		}
		for _, s := range []string{"p S 2", "2 S p", "p S p", "p S 0", "0 S p", "a S 1", "1 S a", "v S v", "f S f", "1 S f", "g() S 1", "1 S g()", "w S w"} {
			wantWrongs(t, strings.ReplaceAll(s, "S", sign))
		}
	}
}

func TestEqualities(t *testing.T) {
	for _, sign := range []string{"==", "!="} {
		for _, s := range []string{
			"1 S 2", "c S l", "p S p", "p S a", "a S a", "a S p", "k S m", "b S &b[1]", "p S w", "w S p", "w S w", "w S k", "x S x", "x S w", "w S x", "q S q", "q S f", "f S q", "f S f", "f S &f", "w S f", "q S w", "h S g",
			"p S 0", "0 S p", "a S 0", "0 S a", "w S 0", "x S 0", "0 S x", "q S 0", "0 S f", "f S 0", "0x0 S p", "p S sizeof(struct e)", "sizeof(struct e) S p", "0 S 0", "&*p S t(0)",
		} {
			wantTypes(t, map[string]api.T{strings.ReplaceAll(s, "S", sign): long})
		}
		for _, s := range []string{
			"p S 1", "1 S p", "p S i", "i S p", "p S -0", "-0 S p", "p S (long)0", "p S (0 + 0)", "p S !1", "p S sizeof(int)", "sizeof(int) S p", "p S r", "r S p", "p S k", "p S pp", "b S a", "q S h", "f S g", "q S p", "p S f", "x S y", "&p S &w", "w S 1", "1 S w",
			"v S v", "v S 0", "0 S v", "o S o", "g() S g()", "g() S 0", "0 S g()", "v S p", "p S v", "w S v", "v S w", "w S g()",
		} {
			wantWrongs(t, strings.ReplaceAll(s, "S", sign))
		}
	}
}

func TestOrders(t *testing.T) {
	for _, sign := range []string{"<", "<=", ">", ">="} {
		for _, s := range []string{"1 S 2", "c S l", "p S p", "p S a", "a S p", "k S m", "w S w", "x S x", "q S f", "f S f", "h S g", "&b[1] S b", "w S malloc(1)"} {
			wantTypes(t, map[string]api.T{strings.ReplaceAll(s, "S", sign): long})
		}
		for _, s := range []string{"p S 0", "0 S p", "p S w", "w S p", "p S r", "p S 1", "1 S p", "q S h", "v S v", "v S 1", "g() S g()", "x S y", "b S a", "w S 0"} {
			wantWrongs(t, strings.ReplaceAll(s, "S", sign))
		}
	}
}

func TestAssignments(t *testing.T) {
	wantTypes(t, map[string]api.T{
		"c = 1": char, "c = l": char, "i = c": int4, "l = 5": long, "i = l = c": int4, "p = a": pointer(int4), "p = &i": pointer(int4), "p = 0": pointer(int4), "p = sizeof(struct e)": pointer(int4), "p = w": pointer(int4), "w = p": pointer(void), "w = f": pointer(void), "w = a": pointer(void), "x = 0": pointer(recNo), "x = w": pointer(recNo),
		"q = f": pointer(function(int4, int4, pointer(char))), "q = &f": pointer(function(int4, int4, pointer(char))), "q = *f": pointer(function(int4, int4, pointer(char))), "q = 0": pointer(function(int4, int4, pointer(char))), "h = g": pointer(function(void)), "q = w": pointer(function(int4, int4, pointer(char))),
		"v = v": recS, "v = *k": recS, "v = m[1]": recS, "v = j()": recS, "*k = v": recS, "o = v.m": recU, "v.m = o": recU, "z = *y": recE, "v = v = v": recS, "k->z = z": recE,
		"a[1] = 2": int4, "*a = 2": int4, "b[1][2] = c": int4, "*p = 1": int4, "**pp = 1": int4, "v.a = 1": int4, "v.m.c = 1": char, "k->n = k": pointer(recS), "k->n->b[1] = 2": long, "m[1].n = m": pointer(recS), "(v = v).b[0] = 1": long, "j().b[0] = 1": long, "j().n->a = 1": int4, "i = f(1, 0)": int4, "pp[1] = p": pointer(int4),
	})
	wantWrongs(t,
		"1 = i", "sizeof(int) = 1", "-i = 1", "&i = 0", "&f = 0", "i + 1 = 1", "(i = 1) = 1", "(long)i = 1", "f(1, 0) = 1", "j().a = 1", "j() = v", "(v = v).a = 1", "(v = v).m.c = 1", "f = f", "f = 0", "f = q", "*f = 1", "*q = f", "*q = *q", "main = 0", "malloc = 0", "nobody = 1",
		"a = a", "a = 0", "a = p", "b[1] = a", "v.b = v.b", "*b = a", "v.b = 0",
		"p = 1", "p = i", "p = -0", "p = r", "p = pp", "p = k", "p = b", "p = (long)0", "p = v", "p = g()", "p = f", "i = p", "i = a", "i = v", "i = w", "i = g()", "i = f", "l = &i", "q = g", "q = h", "q = main", "h = f", "q = a",
		"v = 0", "v = 1", "v = o", "v = z", "v = k", "v = g()", "v = d()", "o = v", "z = 0", "w = i", "w = 1", "w = v", "x = y", "k = y", "pp = pp", "w = g()",
	)
}

func TestIndexes(t *testing.T) {
	wantTypes(t, map[string]api.T{"p[0]": int4, "p[c]": int4, "a[l]": int4, "b[1]": array(3, int4), "b[1][2]": int4, "m[i]": recS, "m[1].b[2]": long, "k[1]": recS, "y[3]": recE, "pp[1]": pointer(int4), "pp[1][2]": int4, "p[-1]": int4, "(&x)[1]": pointer(recNo), "(&q)[0]": pointer(function(int4, int4, pointer(char))), "v.b[a[1]]": long, "(p + 1)[2]": int4})
	wantWrongs(t, "i[0]", "0[p]", "0[a]", "w[0]", "x[0]", "q[0]", "f[0]", "p[p]", "p[a]", "p[w]", "p[v]", "p[g()]", "p[f]", "v[0]", "a[0][0]", "b[0][0][0]", "g()[0]", "1[2]", "p[nobody]", "nobody[0]")
}

func TestFields(t *testing.T) {
	wantTypes(t, map[string]api.T{
		"v.a": int4, "v.n": pointer(recS), "v.b": array(3, long), "v.m": recU, "v.m.c": char, "v.m.i": int4, "v.z": recE, "o.c": char, "o.i": int4, "m[1].n": pointer(recS), "(*k).a": int4, "j().a": int4, "j().b": array(3, long), "(v = v).a": int4, "j().m.c": char,
		"k->a": int4, "k->n": pointer(recS), "k->n->n->m.i": int4, "k->b": array(3, long), "m->a": int4, "(&o)->i": int4, "(&v)->b": array(3, long), "(m + 1)->a": int4, "v.n->z": recE, "(k = k)->a": int4, "((struct s *)l)->a": int4,
	})
	wantWrongs(t,
		"v.nobody", "v.i", "v.s", "o.a", "z.a", "k.a", "m.a", "p.a", "i.a", "1.a", "g().a", "d().a", "f.a", "b.a", "nobody.a", "v.b.a",
		"v->a", "o->i", "k->nobody", "k->i", "y->a", "x->a", "p->a", "w->a", "i->a", "0->a", "f->a", "q->a", "pp->a", "(&k)->a", "b->a", "g()->a", "nobody->a", "j()->a", "m[1]->a",
	)
}

func TestCalls(t *testing.T) {
	wantTypes(t, map[string]api.T{
		"f(1, 0)": int4, "f(c, r)": int4, "f(l, w)": int4, "f(f(1, 0), 0)": int4, "f(1, sizeof(struct e))": int4, "g()": void, "t(p)": pointer(int4), "t(a)": pointer(int4), "t(f)": pointer(int4), "t(0)": pointer(int4), "main()": int4,
		"q(1, 0)": int4, "(*q)(1, 0)": int4, "(**q)(1, 0)": int4, "(*f)(1, 0)": int4, "(&f)(1, 0)": int4, "(f)(1, 0)": int4, "h()": void, "j()": recS, "d()": recNo, "(&q)[0](1, 0)": int4, "(q = f)(1, r)": int4, "((int (*)())w)()": int4, "((void (*)(int (*)(int, char *)))0)(f)": void,
		"malloc(1)": pointer(void), "malloc(c)": pointer(void), "malloc(sizeof(int))": pointer(void), "(malloc)(1)": pointer(void), "free(p)": void, "free(0)": void, "free(a)": void, "free(g)": void, "memcpy(p, a, 8)": void, "memcpy(w, r, c)": void, "memcpy(0, 0, 0)": void, "memset(p, 0, 8)": void, "memset(a, c, l)": void, "input()": long,
	})
	wantWrongs(t,
		"f()", "f(1)", "f(1, 0, 0)", "f(p, 0)", "f(1, p)", "f(1, 1)", "f(v, 0)", "f(1, v)", "f(g(), 0)", "f(1, g())", "g(1)", "g(g())", "t(1)", "t(v)", "t()", "main(0)", "f(1, -0)",
		"q()", "q(1)", "q(1, p)", "(*q)(1)", "(&q)(1, 0)", "i()", "p()", "w()", "v()", "a()", "1()", "g()()", "nobody()", "f(1, 0)(1, 0)", "v.a()", "j(1)", "k->n()",
		"malloc()", "malloc(1, 2)", "malloc(p)", "malloc(v)", "free()", "free(1)", "free(i)", "free(p, p)", "free(v)", "free(free(p))", "memcpy(p, p)", "memcpy(p, p, p)", "memcpy(1, p, 1)", "memcpy(p, 1, 1)", "memcpy(p, p, 1, 1)", "memset(p, p, 1)", "memset(p, 1, p)", "memset(1, 1, 1)", "memset(p, 1)", "input(1)", "input(0)",
		"(*malloc)(1)", "(&malloc)(1)", "f(malloc, 0)", "t(malloc)", "malloc(malloc)", "(malloc + 0)(1)", "(!free)(p)",
	)
}

func TestCasts(t *testing.T) {
	for _, to := range []string{"char", "int", "long", "int *", "void *", "struct s *", "struct no *", "int (*)(int, char *)", "void (*)()", "struct no (*)()", "int **"} {
		for _, s := range []string{"c", "i", "l", "0", "p", "w", "x", "a", "b", "m", "f", "g", "q", "main", "v.b", "*p", "f(1, 0)", "malloc(1)", "&v", "(char)i"} {
			wantStatements(t, "("+to+")"+s+";")
		}
		for _, s := range []string{"v", "o", "z", "*k", "g()", "h()", "j()", "d()", "malloc", "nobody", "(v = v)"} {
			wantWrongs(t, "("+to+")"+s)
		}
	}
	wantTypes(t, map[string]api.T{"(char)i": char, "(int)p": int4, "(long)f": long, "(int *)l": pointer(int4), "(struct no *)0": pointer(recNo), "(void (*)())p": pointer(function(void)), "(char)(int)1": char})
	wantWrongs(t, "(void)i", "(struct s)v", "(struct s)i", "(union u)o", "(struct no)i", "(void)g()", "(int"+strings.Repeat("*", 60)+")0", "(int (*)(struct s))p", "(int (*)(void))p")
	wantStatements(t, "(int"+strings.Repeat("*", 59)+")0;")
}

// P7.2: what is annotated.

// nodes returns the nodes of a tree for which f holds, in order.
func nodes(n api.Node, f func(api.Node) bool) []api.Node {
	var l []api.Node
	if f(n) {
		l = append(l, n)
	}
	for _, k := range n.Kids {
		l = append(l, nodes(k, f)...)
	}
	return l
}

func TestSizeofsBecomeNumbers(t *testing.T) {
	for s, want := range map[string]int64{"char": 1, "int": 4, "long": 8, "void *": 8, "struct s": 48, "union u": 4, "struct e": 0, "struct no *": 8, "void (*)()": 8} {
		n := wantOK(t, within("l = sizeof("+s+");"))
		k := n.Kids[headItems].Kids[0].Kids[0].Kids[0].Kids[1]
		if !sameNode(k, api.Node{Kind: api.NodeNumber, N: want, T: long}) {
			t.Errorf("sizeof(%s) is %v", s, k)
		}
	}
}

// wantNumbers holds the N of all nodes of a unit that have that Text and are names, or declared in functions.
func wantNumbers(t *testing.T, n api.Node, l map[string][]int64) {
	t.Helper()
	for text, want := range l {
		var got []int64
		for _, k := range nodes(n, func(k api.Node) bool {
			return k.Text == text && (k.Kind == api.NodeName || k.Kind == api.NodeDecl)
		}) {
			got = append(got, k.N)
		}
		if !slices.Equal(got, want) {
			t.Errorf("the numbers of %s are %v, want %v", text, got, want)
		}
	}
}

func TestNumbersOfNames(t *testing.T) {
	n := wantOK(t, `int x; struct s { int y; }; int y; void f(int a, int b) { int c; { int d; d = c; } if (a) int d = b; else int d = y; while (x) { int a; a = 1; } int e; e = a; g(); }
		int z; void g() { int c = z; f(c, x); main(); malloc(1); free(0); memcpy(0, 0, 0); memset(0, 0, 0); input(); int malloc = 0; malloc; } int main() { f; g; main; int w; return w; }`)
	wantNumbers(t, n, map[string][]int64{
		"x": {0, 0}, "y": {0, 1}, "z": {2}, // the first y is a field
		"a": {1000, 1000, 1006, 1006, 1000}, "b": {1001, 1001}, "c": {1002, 1002, 1000, 1000}, "d": {1003, 1003, 1004, 1005}, "e": {1007, 1007}, "w": {1000, 1000},
		"f": {2000, 2000}, "g": {2001, 2001}, "main": {2002, 2002},
		"malloc": {3000, 1001, 1001}, "free": {3001}, "memcpy": {3002}, "memset": {3003}, "input": {3004},
	})
	for _, k := range n.Kids {
		if k.N != 0 {
			t.Errorf("the item %s has the number %d", k.Text, k.N)
		}
	}
}

func TestTypesOfBuiltins(t *testing.T) {
	for s, want := range map[string]api.T{
		"malloc(1)": function(pointer(void), long), "free(0)": function(void, pointer(void)), "memcpy(0, 0, 0)": function(void, pointer(void), pointer(void), long),
		"memset(0, 0, 0)": function(void, pointer(void), long, long), "input()": function(long),
	} {
		n := wantOK(t, within(s+";"))
		k := n.Kids[headItems].Kids[0].Kids[0].Kids[0].Kids[0]
		if k.Kind != api.NodeName || !same(k.T, want) {
			t.Errorf("the name called in %s is %v", s, k)
		}
	}
}

// bare is a tree without what is annotated.
func bare(n api.Node) api.Node {
	switch n.Kind {
	case api.NodeSizeof:
		n = api.Node{Kind: api.NodeNumber}
	case api.NodeNumber, api.NodeUnary, api.NodeBinary, api.NodeAssign, api.NodeIndex, api.NodeDot, api.NodeArrow, api.NodeCall:
		n.T = api.T{}
	case api.NodeName:
		n.T, n.N = api.T{}, 0
	case api.NodeDecl:
		n.N = 0
	}
	var l []api.Node
	for _, k := range n.Kids {
		l = append(l, bare(k))
	}
	n.Kids = l
	return n
}

// richSource has nodes of all kinds.
const richSource = head + `long fact(int n) { if (n < 2) return 1; else { return n * fact(n - 1); } }
void all(struct s *k, int (*fn)(int, char *)) {
	int n = 3; struct s u; int (*tab[2])(int, char *); ;
	while (n) { if (n == 2) { n = n - 1; continue; } if (!n) break; int n; n = 5; { struct s *n = k; n->n = &u; } }
	tab[1] = fn; n = tab[1](n, (char *)&n); u.m.c = -n; u.b[2] = ~u.b[1]; memcpy(&u, k, 64); w = malloc(n * 5 + 3); return; }
int main() { all(&v, f); all(k, 0); return fact(5) + input(); }`

func TestTheRestStaysAsItIs(t *testing.T) {
	n := parsed(t, richSource)
	m := wantOK(t, richSource)
	if !sameNode(bare(n), bare(m)) {
		t.Errorf("the annotated unit is %v", bare(m))
	}
}

func TestTheRecordsAreTheUnits(t *testing.T) {
	n := parsed(t, richSource)
	want, _, _ := layout.Records(n)
	_, recs, _, _ := check.Check(n)
	if len(recs) != 3 || !slices.EqualFunc(recs, want, sameRec) {
		t.Errorf("the records are %v", recs)
	}
}

// Statements.

func TestConditions(t *testing.T) {
	for _, s := range []string{"c", "i", "l", "0", "1", "p", "w", "x", "a", "f", "q", "main", "v.b", "i = 0", "p = 0", "f(1, 0)", "malloc(1)", "sizeof(int)", "!v.a"} {
		wantStatements(t, "if ("+s+") ;", "if ("+s+") ; else ;", "while ("+s+") ;")
	}
	for _, s := range []string{"v", "o", "z", "g()", "h()", "j()", "v = v", "*k", "malloc", "nobody", "1 = 1", "free(p)"} {
		wantWrong(t, "if ("+s+") ;", "if ("+s+") ; else ;", "while ("+s+") ;", "while (1) if (0) ; else if ("+s+") ;")
	}
}

func TestStatementsOfAllExpressions(t *testing.T) {
	wantStatements(t, "g();", "j();", "d();", "v;", "a;", "f;", "v = v;", "z;", "v.z;", ";", "{}", "{;}", "*q;", "k->b;")
	wantWrong(t, "{ nobody; }", "if (1) nobody;", "if (1) ; else nobody;", "while (1) nobody;", "{ { ; nobody; } }", "{ i; { } nobody; }")
}

func TestVariables(t *testing.T) {
	wantStatements(t,
		"char z;", "void *z;", "struct s z;", "union u z; z = o;", "struct e z;", "struct no *z;", "int z[3];", "struct s z[85];", "struct s z[3][2];", "int (*z)(int, char *);", "struct no (*z)();", "struct s (*z[2])();", "char z[4096];", "int z[1024];",
		"int z = 3;", "char z = l;", "long z = c;", "int *z = p;", "int *z = a;", "int *z = 0;", "int *z = w;", "void *z = f;", "int *z = sizeof(struct e);", "struct s z = v;", "struct s z = j();", "union u z = v.m;", "struct no *z = 0;", "int (*z)(int, char *) = f;", "int (*z)(int, char *) = &f;", "struct s z = k[1];", "int z = i = 3;",
	)
	wantWrong(t,
		"void z;", "struct no z;", "union s z;", "struct u z;", "struct no z[2];", "char z[4096][2];", "char z[2][4096];", "int z[1025];", "struct s z[86];", "int (*z)(struct s);", "int (*z)(void);", "int (*z)(int, struct s);",
		"int z = p;", "int z = v;", "int z = g();", "int z = f;", "int *z = 1;", "int *z = r;", "int *z = -0;", "int *z = i;", "int *z = v;", "int *z = b;", "struct s z = 0;", "struct s z = o;", "struct s z = d();", "struct s z = k;", "union u z = 1;", "int z[3] = a;", "int z[3] = 0;", "int z[3] = p;", "struct s z[2] = m;", "char z[1] = 0;", "int (*z)() = f;", "int z = nobody;", "void z = g();", "struct no z = d();",
	)
}

func TestReturns(t *testing.T) {
	wantStatements(t, "return 1;", "return c;", "return l;", "{ return 0; }", "if (i) return f(1, 0);", "return 0; return 1;")
	wantWrong(t, "return;", "{ return; }", "return p;", "return v;", "return g();", "return &main;", "return nobody;", "while (1) { return; }")
	for _, c := range []struct{ f, right, wrong string }{
		{"void ret()", "return;", "return 0;"}, {"void ret()", "", "return g();"}, {"void ret()", "{ return; }", "return v;"}, {"void ret()", "", "return nobody;"},
		{"int *ret()", "return p;", "return 1;"}, {"int *ret()", "return 0;", "return r;"}, {"int *ret()", "return w;", "return;"}, {"int *ret()", "return sizeof(struct e);", "return i;"}, {"int *ret()", "", "return -0;"},
		{"char ret()", "return l;", "return p;"}, {"long ret()", "return c;", "return;"}, {"struct no *ret()", "return x;", "return y;"}, {"void *ret()", "return f;", "return l;"}, {"struct s *ret()", "return m;", "return v;"},
	} {
		wantOK(t, head+c.f+" { "+c.right+" } int main() { return 0; }")
		wantError(t, head+c.f+" { "+c.wrong+" } int main() { return 0; }", headItems, api.ErrType)
	}
	wantOK(t, "void main() { return; }")
	wantError(t, "void main() { return 0; }", 0, api.ErrType)
}

func TestBreaksAndContinues(t *testing.T) {
	for _, s := range []string{"break;", "continue;"} {
		wantStatements(t, "while (1) "+s, "while (1) { "+s+" }", "while (1) { if (i) "+s+" }", "while (1) if (i) ; else { { "+s+" } }", "while (1) { while (0) ; "+s+" }", "while (1) while (1) "+s)
		wantWrong(t, s, "{ "+s+" }", "if (1) "+s, "if (1) ; else "+s, "while (1) ; "+s, "{ while (1) { } } "+s, "while (1) while (1) "+s+" "+s)
	}
	wantError(t, "void f() { while (1) ; } void main() { break; }", 1, api.ErrType)
	wantError(t, "void f() { while (1) return; continue; } void main() { }", 0, api.ErrType)
}

// Names and scopes.

func TestScopes(t *testing.T) {
	wantStatements(t,
		"int z; { int z; }", "{ int z; } int z;", "{ int z; } { int z; }", "{ int z; { int z; } }", "if (1) int z; else int z;", "int z; if (1) int z;", "int z; while (1) int z;", "while (1) int z; int z;", "if (1) { int z; } int z;", "int z; if (1) { int z; { int z; } }",
		"int i = i;", "int i = 1; { int i = i; i = 2; }", "int *i = &i;", "struct s i; i = v;", "int f; f = 1;", "int malloc = 1; malloc = 2;", "{ int malloc; } malloc(1);", "int main;", "{ struct s i; } i = 1;", "int *malloc = malloc(5);",
		"while (i) { int i; }", "if (1) int *i; i = 2;", "if (1) ; else int *i; i = 2;", "{ i = 1; int *i; i = 0; *i; }", "i = 3; struct s i; i.a = 3;", "int s; int u; int nobody; nobody = s;",
	)
	wantWrong(t,
		"int z; int z;", "int z; char *z;", "int z; { } int z;", "{ int z; int z; }", "if (1) { int z; int z; }", "while (1) { int z; { int y; } int z; }", "int z; z = 1; int z;",
		"z2 = 1; int z2;", "{ int z2; } z2 = 1;", "if (1) int z2; z2 = 1;", "if (1) int z2; else z2 = 1;", "while (1) int z2; z2 = 1;", "int z2 = z2;", "{ { int z2; } z2; }", "if (1) ; else int z2; z2 = 1;", "while (1) { int z2; } z2;",
		"struct s i; i = 1;", "{ struct s i; i = 1; }", "struct s i; { i = 1; }", "int f; f(1, 0);", "int malloc; malloc(1);", "int malloc = malloc;", "int *i = 0; int n = i;", "{ int p; *p; }", "struct s i; while (i) ;", "int input; input();",
	)
}

func TestParameters(t *testing.T) {
	main := " int main() { return 0; }"
	for _, s := range []string{
		"int f(int a) { { int a; } return a; }", "int f(int a, char *b) { if (b) int a; return a; }", "void f(struct no *a, void *b) { a = b; }", "void f(int f) { f = 1; }", "void f(int malloc) { malloc = 1; }", "void f(int main) { }",
		"void f(char a, int b, long c, int *d, int (*e)(int), struct no (*g)()) { }", "int g; void f(int *g) { *g = 1; } void h() { g = 1; }",
	} {
		wantOK(t, s+main)
	}
	for _, s := range []string{
		"int f(int a, int a) { return 0; }", "int f(int a, char *b, int *a) { return 0; }", "int f(int a) { int a; return 0; }", "int f(int a) { int b; int a; return 0; }", "void f(int f) { f(1); }", "void f(int malloc) { malloc(1); }", "int g; void f(int *g) { g = 1; }",
	} {
		wantError(t, s+main, strings.Count(s, "int g;"), api.ErrType)
	}
	wantError(t, "int f(int a) { return a; } int main() { return a; }", 1, api.ErrType)
}

func TestNamesOfAllItemsAreKnownInAllBodies(t *testing.T) {
	wantOK(t, "int main() { z = 1; return later(); } int z; int later() { return main(); }")
	wantOK(t, "struct s *x; int main() { x->a = 1; return sizeof(struct s); } struct s { int a; };")
}

// P7.1: the order of the errors.

func TestErrorsOfRecords(t *testing.T) {
	main := " int main() { return 0; }"
	for _, c := range []struct {
		s  string
		at int
		e  api.Errno
	}{
		{"struct s { struct s a; };", 0, api.ErrNone}, {"int g; struct s { struct s a; };", 1, api.ErrNone}, {"struct e { }; int g; struct s { void a; };", 2, api.ErrType},
		{"struct e { }; int g; void f() { } struct e { };", 3, api.ErrType}, {"int g; struct s { char a[4096]; char b; };", 1, api.ErrSize}, {"int x; struct a { }; int y; struct b { struct c x; }; struct c { };", 3, api.ErrNone},
		{"int x; int x; struct s { int a; int a; };", 2, api.ErrType}, {"void x; struct no g; void f(void x) { nobody; } struct s { struct no a; };", 3, api.ErrNone},
		{"int x; struct s0 { }; int y; union u { int a[2000]; };", 3, api.ErrSize},
	} {
		wantError(t, c.s+main, c.at, c.e)
		wantError(t, c.s, c.at, c.e)
	}
	var s strings.Builder
	for i := range 65 {
		s.WriteString("int g" + strconv.Itoa(i) + "; struct s" + strconv.Itoa(i) + " { };")
	}
	wantError(t, s.String(), 129, api.ErrSize)
}

func TestErrorsOfItems(t *testing.T) {
	main := " int main() { return nobody; }" // in the body, so it's no error yet
	for s, at := range map[string]int{
		"int g; int g;": 1, "int g; char *g;": 1, "int g; void g() { }": 1, "void g() { } int g;": 1, "void g() { } void g() { }": 1, "int g; int h; int i; int h; int g;": 3, "int main;": 1, "void main() { }": 1,
		"int malloc;": 0, "int x; int free;": 1, "void memcpy() { }": 0, "struct s { }; int memset[3];": 1, "long input() { return 0; }": 0,
		"void g;": 0, "struct no g;": 0, "struct s { }; union s g;": 1, "int g[1025];": 0, "struct no g[2];": 0, "int g[2][2000];": 0, "int (*g)(void);": 0, "int (*g)(struct s);": 0, "int g; int (*h)(int, union u);": 1, "int " + strings.Repeat("*", 60) + "g;": 0, "int (*g[2000])();": 0,
		"struct s { int a; }; struct s f() { }": 1, "struct no f() { }": 0, "void f(void a) { }": 0, "void f(struct s a) { } struct s { };": 0, "void f(int a[2]) { }": 0, "void f(int a, char *b, union u c) { }": 0, "void f(int (*a)(void)) { }": 0, "int " + strings.Repeat("*", 59) + "f() { return 0; }": 0, "void f(int " + strings.Repeat("*", 59) + "a) { }": 0,
		"int h() { return nobody; } int g; int g;": 2, "void f(int a, int a) { } int x; void y;": 2,
	} {
		wantError(t, s+main, at, api.ErrType)
	}
	for _, s := range []string{"int g; struct g { };", "struct s { int g; }; int g;", "int s; struct s { };", "int " + strings.Repeat("*", 58) + "f() { return 0; }", "void f(int " + strings.Repeat("*", 58) + "a) { }", "struct no *f() { return 0; }", "int g[1024];", "int " + strings.Repeat("*", 59) + "g;", "int a; int (*g[512])();", "struct s g; struct s { int a; };", "struct no (*g)(struct no *);"} {
		wantOK(t, s+" int main() { return 0; }")
	}
}

func TestMain(t *testing.T) {
	for _, s := range []string{"int main() { return 0; }", "void main() { }", "char main() { return 0; }", "long main() { return 0; }"} {
		wantOK(t, s)
	}
	for s, at := range map[string]int{
		"int main(int x) { return 0; }": 0, "int *main() { return 0; }": 0, "void g() { } void main(char *x, int n) { }": 1, "int g; void *main() { return 0; }": 1, "struct s { }; struct s main() { }": 1, "int x; int (*main)();": 2,
		"": 0, "int f() {}": 1, "int main;": 1, "int x; struct s { }; void f() { nobody; }": 3, "struct main { };": 1, "int Main() { return 0; }": 1, "void f(int main) { int main2; }": 1, "struct s { int main; };": 1, "void f() { int main; }": 1,
		"int main; int main() { return 0; }": 1, "int main() { return 0; } int main() { return 0; }": 1, "int main() { return 0; } int main;": 1, "int main() { return nobody; } int main(int x) { return 0; }": 1,
	} {
		wantError(t, s, at, api.ErrType)
	}
}

func TestErrorsOfBodies(t *testing.T) {
	for _, c := range []struct {
		s  string
		at int
	}{
		{"void f() { nobody; } int main() { return nobody; }", 0}, {"void f() { } int g; int main() { return nobody; } void h() { nobody; }", 2}, {"struct s { }; int g; void f(int a, int a) { } int main() { return nobody; }", 2},
		{"int main() { return 0; } struct s { }; void f() { nobody; }", 2}, {"int main() { return 0; } void f() { } void h() { break; }", 2},
	} {
		wantError(t, c.s, c.at, api.ErrType)
	}
}

// many is n times s, with the number of each one for each #.
func many(n int, s string) string {
	var b strings.Builder
	for i := range n {
		b.WriteString(strings.ReplaceAll(s, "#", strconv.Itoa(i)))
	}
	return b.String()
}

func TestNumberOfGlobalsAndFunctions(t *testing.T) {
	main := "int main() { return 0; }"
	wantOK(t, many(200, "int g#;")+main)
	wantOK(t, many(199, "void f#() { }")+main)
	wantOK(t, many(199, "int g#; void f#() { }")+main+"int g;")
	wantOK(t, main+many(199, "struct s#*g#; void f#(int x) { int y; }"))
	wantError(t, many(201, "int g#;")+main, 200, api.ErrSize)
	wantError(t, many(205, "int g#;"), 200, api.ErrSize)
	wantError(t, "struct s { };"+many(201, "int g#;")+main, 201, api.ErrSize)
	wantError(t, main+many(202, "int g#;"), 201, api.ErrSize)
	wantError(t, many(200, "void f#() { }")+main, 200, api.ErrSize)
	wantError(t, main+many(200, "void f#() { }"), 200, api.ErrSize)
	wantError(t, many(201, "void f#() { nobody; }"), 200, api.ErrSize)
	wantError(t, many(200, "int g#; void f#() { }")+main+"int g;", 400, api.ErrSize)
	wantError(t, many(200, "int g#;")+"int g7;"+main, 200, api.ErrType)
	wantError(t, many(200, "int g#;")+"void g;"+main, 200, api.ErrType)
	wantError(t, many(200, "int g#;")+"int free;"+main, 200, api.ErrType)
	wantError(t, many(200, "void f#() { }")+"int main(int x) { return 0; }", 200, api.ErrType)
	wantError(t, many(200, "void f#() { }")+"void f9() { }"+main, 200, api.ErrType)
	wantError(t, many(200, "void f#() { }")+"void f(void x) { }"+main, 200, api.ErrType)
	wantError(t, many(200, "int g#;")+main+"void f(void x) { } int g;", 201, api.ErrType)
}

func TestNumberOfVariables(t *testing.T) {
	vars := many(200, "int v#;")
	wantOK(t, "int main() { "+vars+" return v199; }")
	wantOK(t, "int f(int a, int b) { "+many(198, "int v#;")+" return a; } int main() { "+vars+" return 0; }")
	wantOK(t, "int main() { "+many(100, "{ int a; if (a) int b; }")+" return 0; }")
	wantOK(t, many(200, "int g#;")+"int main() { "+vars+" return g7; }")
	for _, c := range []struct {
		body string
		e    api.Errno
	}{
		{vars + "int v;", api.ErrSize}, {vars + "{ { int v7; } }", api.ErrSize}, {vars + "int v = v7;", api.ErrSize}, {vars + "if (1) int v; return &v0;", api.ErrSize}, {vars + "int v; int v;", api.ErrSize}, {vars + "int v; nobody;", api.ErrSize},
		{vars + "while (1) ; while (0) int v = 0;", api.ErrSize}, {many(100, "{ int a; int b; }") + "int c;", api.ErrSize}, {many(200, "if (1) int a;") + "int c;", api.ErrSize},
		{vars + "nobody; int v;", api.ErrType}, {vars + "int v7;", api.ErrType}, {vars + "void v;", api.ErrType}, {vars + "int v = nobody;", api.ErrType}, {vars + "int v = v;", api.ErrType}, {vars + "int *v = v7;", api.ErrType}, {vars + "if (nobody) int v;", api.ErrType}, {vars + "while (nobody) int v;", api.ErrType}, {vars + "int v[2] = 0;", api.ErrType}, {vars + "struct no v;", api.ErrType}, {vars + "if (1) break; else int v;", api.ErrType},
	} {
		wantError(t, "int x; int main() { "+c.body+" return 0; }", 1, c.e)
		wantError(t, "int main() { return 0; } void f(int v0) { "+strings.Replace(c.body, "int v0;", "", 1)+" return; }", 1, c.e)
	}
	wantError(t, "void f(int a, int b, int c, int d, int e, int f) { "+many(195, "int v#;")+" } int main() { return 0; }", 0, api.ErrSize)
	wantError(t, "void f() { "+vars+" int v; } int main() { return 0; } void h() { nobody; }", 0, api.ErrSize)
	wantError(t, "void f() { nobody; } int main() { "+vars+" int v; return 0; }", 0, api.ErrType)
}

// P7.3.

func wantAgain(t *testing.T, n api.Node) {
	t.Helper()
	once, recs, _, _ := check.Check(n)
	twice, recs2, at, e := check.Check(once)
	if e != api.OK || at != 0 || !sameNode(once, twice) || !slices.EqualFunc(recs, recs2, sameRec) {
		t.Errorf("an annotated unit is checked as %v with the error %d at %d", twice, e, at)
	}
	for _, k := range nodes(once, func(k api.Node) bool { return k.Kind >= api.NodeNumber && k.Kind <= api.NodeSizeof }) {
		if !ctype.May(k.T) || k.Kind == api.NodeSizeof {
			t.Errorf("the annotated unit has the expression %v", k)
		}
	}
}

func TestCheckedAgain(t *testing.T) {
	wantAgain(t, parsed(t, richSource))
	wantAgain(t, parsed(t, within("p = sizeof(struct e); l = sizeof(struct s) + sizeof(int); if (p == sizeof(struct e)) ; int *n = sizeof(struct e); t(sizeof(struct e));")))
}

// The document's examples.

func TestExamples(t *testing.T) {
	wantOK(t, "int main() { int *p = malloc(4); *p = 1; return *p; }")
	wantError(t, "int main() { return &main; }", 0, api.ErrType)
	wantError(t, "int f() {}", 1, api.ErrType)
}
