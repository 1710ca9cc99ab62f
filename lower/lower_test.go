package lower_test

import (
	"slices"
	"strconv"
	"strings"
	"testing"

	"crosstree/api"
	"crosstree/check"
	"crosstree/ctype"
	"crosstree/ir"
	"crosstree/lower"
	"crosstree/parse"
)

// head has a name for everything that an expression may be made of: the functions f, g and t come before main, and then the globals.
const head = `union u { char c; int i; }; struct e { }; struct s { int a; struct s *n; long b[3]; union u m; char d; };
char c; int i; long l; int *p; char *r; void *w; struct s v; struct s *k; union u o; struct e z; struct e *y; struct no *x;
int a[3]; struct s m[2]; int b[2][3]; int *pp[2]; int (*q)(int, char *); void (*h)(); struct s (*j)(); struct s **kk; long ar[4]; int (*fs[2])(int, char *);
int f(int x, char *y) { return x; } void g() { } int *t(void *x) { return 0; }
`

// mainOf is the number of main in head.
const mainOf = 3

// within is a unit with these statements in its main.
func within(body string) string {
	return head + "int main() { " + body + " }"
}

// shortened is what tells sources apart.
func shortened(s string) string {
	s, _ = strings.CutPrefix(s, head)
	return s[max(0, len(s)-200):]
}

func checked(t *testing.T, s string) (api.Node, []api.Rec) {
	t.Helper()
	n, at, e := parse.Parse(s)
	if e != api.OK {
		t.Fatalf("%s: Parse has the error %d at %d", shortened(s), e, at)
	}
	unit, recs, at, e := check.Check(n)
	if e != api.OK {
		t.Fatalf("%s: Check has the error %d at %d", shortened(s), e, at)
	}
	return unit, recs
}

// lowered lowers a source that isn't too large, and holds P9.2.
func lowered(t *testing.T, s string) api.Prog {
	t.Helper()
	unit, recs := checked(t, s)
	p, e := lower.Lower(unit, recs)
	if e != api.OK {
		t.Fatalf("%s: the error %d", shortened(s), e)
	}
	wantWellFormed(t, p)
	return p
}

// wantWellFormed holds P9.2.
func wantWellFormed(t *testing.T, p api.Prog) {
	t.Helper()
	if n, pc, e := ir.Check(p); e != api.OK {
		t.Fatalf("the error %d in the function %d at %d", e, n, pc)
	}
	for _, f := range p.Fns {
		written := make([]bool, f.Regs)
		for r := range f.Params {
			written[r] = true
		}
		for pc, i := range f.Code {
			for _, r := range ir.Reads(i) {
				if !written[r] {
					t.Fatalf("%s: at %d, %v reads %d, which isn't written before", f.Name, pc, i, r)
				}
			}
			if r := ir.Writes(i); r >= 0 {
				if written[r] {
					t.Fatalf("%s: at %d, %v writes %d once more", f.Name, pc, i, r)
				}
				written[r] = true
			}
			if !sameInsn(i, bare(i)) {
				t.Fatalf("%s: at %d, %v has more than its Op asks", f.Name, pc, i)
			}
		}
		if slices.Contains(written, false) {
			t.Fatalf("%s: of %d registers, not all are written", f.Name, f.Regs)
		}
	}
}

// bare is an instruction without what has no meaning in it.
func bare(i api.Insn) api.Insn {
	o := api.Insn{Op: i.Op}
	if ir.Writes(i) >= 0 || slices.Contains([]int{api.OpStore, api.OpCopy, api.OpMove, api.OpFill, api.OpFree, api.OpIf, api.OpReturn}, i.Op) {
		o.A = i.A
	}
	switch i.Op {
	case api.OpAddr, api.OpAdd, api.OpIndex, api.OpBin, api.OpUn, api.OpFit, api.OpLoad, api.OpStore, api.OpCopy, api.OpMove, api.OpFill, api.OpMalloc, api.OpCallP:
		o.B = i.B
	}
	switch i.Op {
	case api.OpIndex, api.OpBin, api.OpMove, api.OpFill:
		o.C = i.C
	}
	switch i.Op {
	case api.OpConst, api.OpAdd, api.OpIndex, api.OpCopy, api.OpMalloc, api.OpCall, api.OpJump, api.OpIf:
		o.N = i.N
	case api.OpFit, api.OpLoad, api.OpStore:
		o.W = i.W
	}
	switch i.Op {
	case api.OpBin, api.OpUn:
		o.Sign = i.Sign
	case api.OpCall, api.OpCallP:
		o.Args = i.Args
	}
	return o
}

func sameInsn(i, o api.Insn) bool {
	return slices.Equal(i.Args, o.Args) && i.Op == o.Op && i.A == o.A && i.B == o.B && i.C == o.C && i.W == o.W && i.N == o.N && i.Sign == o.Sign
}

func sameSite(s, o api.Site) bool {
	return s.Kind == o.Kind && s.Size == o.Size && s.Func == o.Func && s.Name == o.Name && ctype.Same(s.T, o.T)
}

func sameFn(f, o api.Fn) bool {
	return f.Name == o.Name && f.Regs == o.Regs && f.Params == o.Params && slices.Equal(f.Locals, o.Locals) && slices.EqualFunc(f.Code, o.Code, sameInsn)
}

func sameProg(p, o api.Prog) bool {
	return p.Main == o.Main && slices.EqualFunc(p.Sites, o.Sites, sameSite) && slices.EqualFunc(p.Fns, o.Fns, sameFn)
}

// siteName tells a site by its name: a variable of a function behind that function's, a heap site with its index, also a variable that has the name of an earlier one.
func siteName(p api.Prog, k int) string {
	s := p.Sites[k]
	name := s.Name
	if s.Kind == api.SiteLocal {
		name = p.Fns[s.Func].Name + "." + name
	}
	earlier := slices.IndexFunc(p.Sites, func(o api.Site) bool { return o.Kind == s.Kind && o.Func == s.Func && o.Name == s.Name })
	if s.Kind == api.SiteHeap || earlier < k {
		name += "#" + strconv.Itoa(k)
	}
	return name
}

func reg(r int) string {
	return "r" + strconv.Itoa(r)
}

// text writes an instruction.
func text(p api.Prog, i api.Insn) string {
	a, b, c, n, w := reg(i.A), reg(i.B), reg(i.C), strconv.FormatInt(i.N, 10), strconv.Itoa(i.W)
	var args []string
	for _, r := range i.Args {
		args = append(args, reg(r))
	}
	l := "(" + strings.Join(args, " ") + ")"
	switch i.Op {
	case api.OpConst:
		return a + " = " + n
	case api.OpAddr:
		return a + " = &" + siteName(p, i.B)
	case api.OpAdd:
		return a + " = add " + b + " " + n
	case api.OpIndex:
		return a + " = index " + b + " " + c + " " + n
	case api.OpBin:
		return a + " = " + b + " " + i.Sign + " " + c
	case api.OpUn:
		return a + " = " + i.Sign + " " + b
	case api.OpFit:
		return a + " = fit" + w + " " + b
	case api.OpLoad:
		return a + " = load" + w + " " + b
	case api.OpStore:
		return "store" + w + " " + a + " " + b
	case api.OpCopy:
		return "copy " + a + " " + b + " " + n
	case api.OpMove:
		return "move " + a + " " + b + " " + c
	case api.OpFill:
		return "fill " + a + " " + b + " " + c
	case api.OpMalloc:
		return a + " = new " + b + " " + siteName(p, int(i.N))
	case api.OpFree:
		return "free " + a
	case api.OpCall:
		return a + " = " + p.Fns[i.N].Name + l
	case api.OpCallP:
		return a + " = " + b + l
	case api.OpJump:
		return "jump " + n
	case api.OpIf:
		return "if " + a + " " + n
	case api.OpReturn:
		if i.A == -1 {
			return "return"
		}
		return "return " + a
	case api.OpInput:
		return a + " = input"
	}
	return "?"
}

// code writes the instructions of a function.
func code(p api.Prog, n int) string {
	var l []string
	for _, i := range p.Fns[n].Code {
		l = append(l, text(p, i))
	}
	return strings.Join(l, "; ")
}

// wantCode lowers statements in a main, and compares their code without the return at its end.
func wantCode(t *testing.T, body, want string) {
	t.Helper()
	p := lowered(t, within(body))
	got := code(p, mainOf)
	if want != "" {
		want += "; "
	}
	if got != want+"return" {
		t.Errorf("%s\n got: %s\nwant: %sreturn", body, got, want)
	}
}

// wantFn lowers a source, and compares the code of its function of that number.
func wantFn(t *testing.T, s string, n int, want string) {
	t.Helper()
	p := lowered(t, s)
	if got := code(p, n); got != want {
		t.Errorf("%s\n got: %s\nwant: %s", shortened(s), got, want)
	}
}

func TestExample(t *testing.T) {
	wantFn(t, "int main() { return 1; }", 0, "r0 = 1; r1 = fit4 r0; return r1; return")
}

func TestAddresses(t *testing.T) {
	for _, c := range [][2]string{
		{"&i;", "r0 = &i"},
		{"&f;", "r0 = &f"},
		{"&v;", "r0 = &v"},
		{"&q;", "r0 = &q"},
		// NodeIndex: first the value of what is indexed, then that of the index; the bytes are those of the element.
		{"&a[i];", "r0 = &a; r1 = &i; r2 = load4 r1; r3 = index r0 r2 4"},
		{"&p[2];", "r0 = &p; r1 = load8 r0; r2 = 2; r3 = index r1 r2 4"},
		{"&r[l];", "r0 = &r; r1 = load8 r0; r2 = &l; r3 = load8 r2; r4 = index r1 r3 1"},
		{"&b[1][2];", "r0 = &b; r1 = 1; r2 = index r0 r1 12; r3 = 2; r4 = index r2 r3 4"},
		{"&m[1];", "r0 = &m; r1 = 1; r2 = index r0 r1 48"},
		{"&pp[1];", "r0 = &pp; r1 = 1; r2 = index r0 r1 8"},
		{"&y[3];", "r0 = &y; r1 = load8 r0; r2 = 3; r3 = index r1 r2 0"},
		// NodeDot and NodeArrow: the offset of the field, also if it is 0.
		{"&v.a;", "r0 = &v; r1 = add r0 0"},
		{"&v.n;", "r0 = &v; r1 = add r0 8"},
		{"&v.m.i;", "r0 = &v; r1 = add r0 40; r2 = add r1 0"},
		{"&o.c;", "r0 = &o; r1 = add r0 0"},
		{"&k->d;", "r0 = &k; r1 = load8 r0; r2 = add r1 44"},
		{"&k->n->b[1];", "r0 = &k; r1 = load8 r0; r2 = add r1 8; r3 = load8 r2; r4 = add r3 16; r5 = 1; r6 = index r4 r5 8"},
		{"&m->d;", "r0 = &m; r1 = add r0 44"},
		{"&m[1].d;", "r0 = &m; r1 = 1; r2 = index r0 r1 48; r3 = add r2 44"},
		// NodeUnary with *: the value of its kid.
		{"&*p;", "r0 = &p; r1 = load8 r0"},
		{"&*a;", "r0 = &a"},
		{"&**kk;", "r0 = &kk; r1 = load8 r0; r2 = load8 r1"},
		{"&(*k).d;", "r0 = &k; r1 = load8 r0; r2 = add r1 44"},
		{"&*(p + 1);", "r0 = &p; r1 = load8 r0; r2 = 1; r3 = index r1 r2 4"},
		// Any other expression: its value.
		{"(v = *k).a;", "r0 = &v; r1 = &k; r2 = load8 r1; copy r0 r2 48; r3 = add r0 0; r4 = load4 r3"},
		{"j().d;", "r0 = &j; r1 = load8 r0; r2 = r1(); r3 = add r2 44; r4 = load1 r3"},
	} {
		wantCode(t, c[0], c[1])
	}
}

func TestValuesOfPlaces(t *testing.T) {
	for _, c := range [][2]string{
		{"c;", "r0 = &c; r1 = load1 r0"},
		{"i;", "r0 = &i; r1 = load4 r0"},
		{"l;", "r0 = &l; r1 = load8 r0"},
		{"p;", "r0 = &p; r1 = load8 r0"},
		{"h;", "r0 = &h; r1 = load8 r0"},
		{"a[1];", "r0 = &a; r1 = 1; r2 = index r0 r1 4; r3 = load4 r2"},
		{"v.d;", "r0 = &v; r1 = add r0 44; r2 = load1 r1"},
		{"k->n;", "r0 = &k; r1 = load8 r0; r2 = add r1 8; r3 = load8 r2"},
		{"*r;", "r0 = &r; r1 = load8 r0; r2 = load1 r1"},
		{"**kk;", "r0 = &kk; r1 = load8 r0; r2 = load8 r1"},
		{"*pp[1];", "r0 = &pp; r1 = 1; r2 = index r0 r1 8; r3 = load8 r2; r4 = load4 r3"},
		// What isn't scalar stands for itself by its address.
		{"v;", "r0 = &v"},
		{"a;", "r0 = &a"},
		{"o;", "r0 = &o"},
		{"*k;", "r0 = &k; r1 = load8 r0"},
		{"b[1];", "r0 = &b; r1 = 1; r2 = index r0 r1 12"},
		{"*b;", "r0 = &b"},
		{"v.b;", "r0 = &v; r1 = add r0 16"},
		{"k->m;", "r0 = &k; r1 = load8 r0; r2 = add r1 40"},
		// Functions.
		{"f;", "r0 = &f"},
		{"main;", "r0 = &main"},
		{"*f;", "r0 = &f"},
		{"***f;", "r0 = &f"},
		{"*q;", "r0 = &q; r1 = load8 r0"},
	} {
		wantCode(t, c[0], c[1])
	}
}

func TestNumbersAndOperators(t *testing.T) {
	for _, c := range [][2]string{
		{"0;", "r0 = 0"},
		{"9223372036854775807;", "r0 = 9223372036854775807"},
		{"'a';", "r0 = 97"},
		{"sizeof(struct s);", "r0 = 48"},
		{"sizeof(struct e);", "r0 = 0"},
		{"-i;", "r0 = &i; r1 = load4 r0; r2 = - r1"},
		{"~c;", "r0 = &c; r1 = load1 r0; r2 = ~ r1"},
		{"-1;", "r0 = 1; r1 = - r0"},
		{"!i;", "r0 = &i; r1 = load4 r0; r2 = 0; r3 = r1 == r2"},
		{"!p;", "r0 = &p; r1 = load8 r0; r2 = 0; r3 = r1 == r2"},
		{"!!a;", "r0 = &a; r1 = 0; r2 = r0 == r1; r3 = 0; r4 = r2 == r3"},
		{"!f;", "r0 = &f; r1 = 0; r2 = r0 == r1"},
		{"i + c;", "r0 = &i; r1 = load4 r0; r2 = &c; r3 = load1 r2; r4 = r1 + r3"},
		{"1 - 2;", "r0 = 1; r1 = 2; r2 = r0 - r1"},
		{"1 - 2 - 3;", "r0 = 1; r1 = 2; r2 = r0 - r1; r3 = 3; r4 = r2 - r3"},
		{"1 - (2 - 3);", "r0 = 1; r1 = 2; r2 = 3; r3 = r1 - r2; r4 = r0 - r3"},
		{"p == 0;", "r0 = &p; r1 = load8 r0; r2 = 0; r3 = r1 == r2"},
		{"p != w;", "r0 = &p; r1 = load8 r0; r2 = &w; r3 = load8 r2; r4 = r1 != r3"},
		{"p < a;", "r0 = &p; r1 = load8 r0; r2 = &a; r3 = r1 < r2"},
		{"a >= a;", "r0 = &a; r1 = &a; r2 = r0 >= r1"},
		{"f == f;", "r0 = &f; r1 = &f; r2 = r0 == r1"},
	} {
		wantCode(t, c[0], c[1])
	}
	for _, sign := range strings.Fields("+ - * / % & | ^ << >> == != < <= > >=") {
		wantCode(t, "1 "+sign+" l;", "r0 = 1; r1 = &l; r2 = load8 r1; r3 = r0 "+sign+" r2")
	}
}

func TestPointerArithmetic(t *testing.T) {
	for _, c := range [][2]string{
		{"p + 1;", "r0 = &p; r1 = load8 r0; r2 = 1; r3 = index r1 r2 4"},
		{"1 + p;", "r0 = 1; r1 = &p; r2 = load8 r1; r3 = index r2 r0 4"},
		{"r + c;", "r0 = &r; r1 = load8 r0; r2 = &c; r3 = load1 r2; r4 = index r1 r3 1"},
		{"a + 1;", "r0 = &a; r1 = 1; r2 = index r0 r1 4"},
		{"1 + b;", "r0 = 1; r1 = &b; r2 = index r1 r0 12"},
		{"k + i;", "r0 = &k; r1 = load8 r0; r2 = &i; r3 = load4 r2; r4 = index r1 r3 48"},
		{"y + 1;", "r0 = &y; r1 = load8 r0; r2 = 1; r3 = index r1 r2 0"},
		{"&a + 1;", "r0 = &a; r1 = 1; r2 = index r0 r1 12"},
		{"p - 1;", "r0 = &p; r1 = load8 r0; r2 = 1; r3 = - r2; r4 = index r1 r3 4"},
		{"b - i;", "r0 = &b; r1 = &i; r2 = load4 r1; r3 = - r2; r4 = index r0 r3 12"},
		{"p - p;", "r0 = &p; r1 = load8 r0; r2 = &p; r3 = load8 r2; r4 = r1 - r3; r5 = 4; r6 = r4 / r5"},
		{"p - a;", "r0 = &p; r1 = load8 r0; r2 = &a; r3 = r1 - r2; r4 = 4; r5 = r3 / r4"},
		{"m - k;", "r0 = &m; r1 = &k; r2 = load8 r1; r3 = r0 - r2; r4 = 48; r5 = r3 / r4"},
		{"r - r;", "r0 = &r; r1 = load8 r0; r2 = &r; r3 = load8 r2; r4 = r1 - r3; r5 = 1; r6 = r4 / r5"},
		{"y - y;", "r0 = &y; r1 = load8 r0; r2 = &y; r3 = load8 r2; r4 = r1 - r3; r5 = 0; r6 = r4 / r5"},
		{"p - 1 - p;", "r0 = &p; r1 = load8 r0; r2 = 1; r3 = - r2; r4 = index r1 r3 4; r5 = &p; r6 = load8 r5; r7 = r4 - r6; r8 = 4; r9 = r7 / r8"},
	} {
		wantCode(t, c[0], c[1])
	}
}

func TestAssignments(t *testing.T) {
	for _, c := range [][2]string{
		// First the address, then the value; what is narrower than a register is fitted.
		{"c = l;", "r0 = &c; r1 = &l; r2 = load8 r1; store1 r0 r2; r3 = fit1 r2"},
		{"i = 1;", "r0 = &i; r1 = 1; store4 r0 r1; r2 = fit4 r1"},
		{"l = i;", "r0 = &l; r1 = &i; r2 = load4 r1; store8 r0 r2"},
		{"p = a;", "r0 = &p; r1 = &a; store8 r0 r1"},
		{"p = 0;", "r0 = &p; r1 = 0; store8 r0 r1"},
		{"q = f;", "r0 = &q; r1 = &f; store8 r0 r1"},
		{"l = c = i;", "r0 = &l; r1 = &c; r2 = &i; r3 = load4 r2; store1 r1 r3; r4 = fit1 r3; store8 r0 r4"},
		{"i = l = 2;", "r0 = &i; r1 = &l; r2 = 2; store8 r1 r2; store4 r0 r2; r3 = fit4 r2"},
		{"a[i = 1] = 2;", "r0 = &a; r1 = &i; r2 = 1; store4 r1 r2; r3 = fit4 r2; r4 = index r0 r3 4; r5 = 2; store4 r4 r5; r6 = fit4 r5"},
		{"*(p = a) = 3;", "r0 = &p; r1 = &a; store8 r0 r1; r2 = 3; store4 r1 r2; r3 = fit4 r2"},
		{"v.d = 1;", "r0 = &v; r1 = add r0 44; r2 = 1; store1 r1 r2; r3 = fit1 r2"},
		// Records.
		{"v = *k;", "r0 = &v; r1 = &k; r2 = load8 r1; copy r0 r2 48"},
		{"v.m = o;", "r0 = &v; r1 = add r0 40; r2 = &o; copy r1 r2 4"},
		{"z = *y;", "r0 = &z; r1 = &y; r2 = load8 r1; copy r0 r2 0"},
		{"*k = v = m[1];", "r0 = &k; r1 = load8 r0; r2 = &v; r3 = &m; r4 = 1; r5 = index r3 r4 48; copy r2 r5 48; copy r1 r2 48"},
		{"v = j();", "r0 = &v; r1 = &j; r2 = load8 r1; r3 = r2(); copy r0 r3 48"},
	} {
		wantCode(t, c[0], c[1])
	}
}

func TestCasts(t *testing.T) {
	for _, c := range [][2]string{
		{"(char)l;", "r0 = &l; r1 = load8 r0; r2 = fit1 r1"},
		{"(int)c;", "r0 = &c; r1 = load1 r0; r2 = fit4 r1"},
		{"(int)i;", "r0 = &i; r1 = load4 r0; r2 = fit4 r1"},
		{"(long)i;", "r0 = &i; r1 = load4 r0"},
		{"(char *)p;", "r0 = &p; r1 = load8 r0"},
		{"(void *)a;", "r0 = &a"},
		{"(long)&i;", "r0 = &i"},
		{"(int)(char)p;", "r0 = &p; r1 = load8 r0; r2 = fit1 r1; r3 = fit4 r2"},
		{"(int (*)())f;", "r0 = &f"},
		{"*(long *)w;", "r0 = &w; r1 = load8 r0; r2 = load8 r1"},
	} {
		wantCode(t, c[0], c[1])
	}
}

func TestCalls(t *testing.T) {
	for _, c := range [][2]string{
		{"f(1, r);", "r0 = 1; r1 = &r; r2 = load8 r1; r3 = f(r0 r2)"},
		{"(f)(1, 0);", "r0 = 1; r1 = 0; r2 = f(r0 r1)"},
		{"g();", "r0 = g()"},
		{"*t(a);", "r0 = &a; r1 = t(r0); r2 = load4 r1"},
		{"f(f(1, 0), 0);", "r0 = 1; r1 = 0; r2 = f(r0 r1); r3 = 0; r4 = f(r2 r3)"},
		{"main();", "r0 = main()"},
		// Whatever isn't the name of a function is called by its value, which is computed first.
		{"q(i, 0);", "r0 = &q; r1 = load8 r0; r2 = &i; r3 = load4 r2; r4 = 0; r5 = r1(r3 r4)"},
		{"(*q)(1, 0);", "r0 = &q; r1 = load8 r0; r2 = 1; r3 = 0; r4 = r1(r2 r3)"},
		{"(*f)(1, 0);", "r0 = &f; r1 = 1; r2 = 0; r3 = r0(r1 r2)"},
		{"(&g)();", "r0 = &g; r1 = r0()"},
		{"h();", "r0 = &h; r1 = load8 r0; r2 = r1()"},
		{"fs[1](2, 0);", "r0 = &fs; r1 = 1; r2 = index r0 r1 8; r3 = load8 r2; r4 = 2; r5 = 0; r6 = r3(r4 r5)"},
		{"j().n;", "r0 = &j; r1 = load8 r0; r2 = r1(); r3 = add r2 8; r4 = load8 r3"},
		{"j();", "r0 = &j; r1 = load8 r0; r2 = r1()"},
		{"int (*f)() = 0; f();", "r0 = &main.f; r1 = 0; store8 r0 r1; r2 = &main.f; r3 = load8 r2; r4 = r3()"},
	} {
		wantCode(t, c[0], c[1])
	}
	s := "int f(int a, int b, int c, int d, int e, int g) { return 0; } int main() { f(1, 2, 3, 4, 5, 6); int (*p)(int, int, int, int, int, int); p(1, 2, 3, 4, 5, 6); }"
	wantFn(t, s, 1, "r0 = 1; r1 = 2; r2 = 3; r3 = 4; r4 = 5; r5 = 6; r6 = f(r0 r1 r2 r3 r4 r5); r7 = &main.p; r8 = load8 r7; r9 = 1; r10 = 2; r11 = 3; r12 = 4; r13 = 5; r14 = 6; r15 = r8(r9 r10 r11 r12 r13 r14); return")
}

func TestBuiltins(t *testing.T) {
	heap := "malloc#" + strconv.Itoa(len(lowered(t, within("")).Sites)) // main's locals come before, and there are none
	for _, c := range [][2]string{
		{"malloc(4);", "r0 = 4; r1 = new r0 " + heap},
		{"p = malloc(i);", "r0 = &p; r1 = &i; r2 = load4 r1; r3 = new r2 " + heap + "; store8 r0 r3"},
		{"free(p);", "r0 = &p; r1 = load8 r0; free r1"},
		{"free(0);", "r0 = 0; free r0"},
		{"memset(a, 1, 12);", "r0 = &a; r1 = 1; r2 = 12; fill r0 r1 r2"},
		{"input();", "r0 = input"},
		{"i = input() + input();", "r0 = &i; r1 = input; r2 = input; r3 = r1 + r2; store4 r0 r3; r4 = fit4 r3"},
		// A memcpy of a number of at most 4096 doesn't compute the number.
		{"memcpy(p, a, 12);", "r0 = &p; r1 = load8 r0; r2 = &a; copy r1 r2 12"},
		{"memcpy(p, a, 0);", "r0 = &p; r1 = load8 r0; r2 = &a; copy r1 r2 0"},
		{"memcpy(p, a, sizeof(struct s));", "r0 = &p; r1 = load8 r0; r2 = &a; copy r1 r2 48"},
		{"memcpy(a, a, (4));", "r0 = &a; r1 = &a; copy r0 r1 4"},
		{"memcpy(a, a, 4096);", "r0 = &a; r1 = &a; copy r0 r1 4096"},
		{"memcpy(a, a, 4097);", "r0 = &a; r1 = &a; r2 = 4097; move r0 r1 r2"},
		{"memcpy(a, p, 9223372036854775807);", "r0 = &a; r1 = &p; r2 = load8 r1; r3 = 9223372036854775807; move r0 r2 r3"},
		{"memcpy(a, a, l);", "r0 = &a; r1 = &a; r2 = &l; r3 = load8 r2; move r0 r1 r3"},
		{"memcpy(a, a, -4);", "r0 = &a; r1 = &a; r2 = 4; r3 = - r2; move r0 r1 r3"},
		{"memcpy(a, a, (char)4);", "r0 = &a; r1 = &a; r2 = 4; r3 = fit1 r2; move r0 r1 r3"},
		{"memcpy(a, a, 2 + 2);", "r0 = &a; r1 = &a; r2 = 2; r3 = 2; r4 = r2 + r3; move r0 r1 r4"},
		// Names of variables may be those of builtins.
		{"int *malloc; malloc;", "r0 = &main.malloc; r1 = load8 r0"},
		{"int (*memcpy)(int, int, long) = 0; memcpy(1, 2, 3);", "r0 = &main.memcpy; r1 = 0; store8 r0 r1; r2 = &main.memcpy; r3 = load8 r2; r4 = 1; r5 = 2; r6 = 3; r7 = r3(r4 r5 r6)"},
	} {
		wantCode(t, c[0], c[1])
	}
}

func TestStatements(t *testing.T) {
	for _, c := range [][2]string{
		{"", ""},
		{";", ""},
		{"{ } { ; { } }", ""},
		{"1; { 2; { 3; } } 4;", "r0 = 1; r1 = 2; r2 = 3; r3 = 4"},
		// Declarations: like assignments, without the OpFit.
		{"int x; struct s y[3]; char *z;", ""},
		{"char x = l;", "r0 = &main.x; r1 = &l; r2 = load8 r1; store1 r0 r2"},
		{"int x = 1;", "r0 = &main.x; r1 = 1; store4 r0 r1"},
		{"long x = c = 1;", "r0 = &main.x; r1 = &c; r2 = 1; store1 r1 r2; r3 = fit1 r2; store8 r0 r3"},
		{"int *x = a;", "r0 = &main.x; r1 = &a; store8 r0 r1"},
		{"struct s x = v;", "r0 = &main.x; r1 = &v; copy r0 r1 48"},
		{"struct e x = z;", "r0 = &main.x; r1 = &z; copy r0 r1 0"},
		{"int i = i;", "r0 = &main.i; r1 = &i; r2 = load4 r1; store4 r0 r2"},
		// If: an OpJump belongs to the first part if there is a second statement, even an empty one.
		{"if (i) 1;", "r0 = &i; r1 = load4 r0; if r1 4; r2 = 1"},
		{"if (p) ;", "r0 = &p; r1 = load8 r0; if r1 3"},
		{"if (1) 2; else 3;", "r0 = 1; if r0 4; r1 = 2; jump 5; r2 = 3"},
		{"if (1) ; else ;", "r0 = 1; if r0 3; jump 3"},
		{"if (1) 2; else { }", "r0 = 1; if r0 4; r1 = 2; jump 4"},
		{"if (1) if (2) 3; else 4;", "r0 = 1; if r0 7; r1 = 2; if r1 6; r2 = 3; jump 7; r3 = 4"},
		{"if (1) 2; else if (3) 4; else 5; 6;", "r0 = 1; if r0 4; r1 = 2; jump 9; r2 = 3; if r2 8; r3 = 4; jump 9; r4 = 5; r5 = 6"},
		{"if (1) int x = 2;", "r0 = 1; if r0 5; r1 = &main.x; r2 = 2; store4 r1 r2"},
		// While.
		{"while (i) 1;", "r0 = &i; r1 = load4 r0; if r1 5; r2 = 1; jump 0"},
		{"1; while (2) ;", "r0 = 1; r1 = 2; if r1 4; jump 1"},
		{"while (1) break; 2;", "r0 = 1; if r0 4; jump 4; jump 0; r1 = 2"},
		{"9; while (1) { continue; 2; }", "r0 = 9; r1 = 1; if r1 6; jump 1; r2 = 2; jump 1"},
		{"while (1) { if (2) break; if (3) continue; break; }", "r0 = 1; if r0 10; r1 = 2; if r1 5; jump 10; r2 = 3; if r2 8; jump 0; jump 10; jump 0"},
		// The innermost one counts, and behind it again the one around.
		{"while (1) { while (2) { break; continue; } break; continue; }", "r0 = 1; if r0 10; r1 = 2; if r1 7; jump 7; jump 2; jump 2; jump 10; jump 0; jump 0"},
		{"while (1) while (2) while (3) break;", "r0 = 1; if r0 10; r1 = 2; if r1 9; r2 = 3; if r2 8; jump 8; jump 4; jump 2; jump 0"},
		{"while (1) break; while (2) continue;", "r0 = 1; if r0 4; jump 4; jump 0; r1 = 2; if r1 8; jump 4; jump 4"},
	} {
		wantCode(t, c[0], c[1])
	}
}

func TestReturns(t *testing.T) {
	for _, c := range [][2]string{
		{"void f() { return; }", "return; return"},
		{"void f() { }", "return"},
		{"int f() { }", "return"},
		{"char f() { return 1; }", "r0 = 1; r1 = fit1 r0; return r1; return"},
		{"int f() { return 1; }", "r0 = 1; r1 = fit4 r0; return r1; return"},
		{"long f() { return 1; }", "r0 = 1; return r0; return"},
		{"int *f() { return 0; }", "r0 = 0; return r0; return"},
		{"void *f() { return f; }", "r0 = &f; return r0; return"},
		{"int f(char x) { return x; }", "r1 = &f.x; store1 r1 r0; r2 = &f.x; r3 = load1 r2; r4 = fit4 r3; return r4; return"},
		{"void f(int x) { if (x) return; while (1) return; }", "r1 = &f.x; store4 r1 r0; r2 = &f.x; r3 = load4 r2; if r3 6; return; r4 = 1; if r4 10; return; jump 6; return"},
		{"long f() { return 1; return 2; }", "r0 = 1; return r0; r1 = 2; return r1; return"},
	} {
		wantFn(t, c[0]+" int main() { return 0; }", 0, c[1])
	}
	wantFn(t, "void main() { return; }", 0, "return; return")
	wantFn(t, "char main() { return 300; }", 0, "r0 = 300; r1 = fit1 r0; return r1; return")
}

func TestFunctions(t *testing.T) {
	p := lowered(t, "int g; void none() { } long f(char c, int i, long l, int *p) { int g = i; { char i; } return g; } int main() { char x; return 0; }")
	for n, want := range []api.Fn{
		{Name: "none"}, {Name: "f", Regs: 13, Params: 4, Locals: []int{4, 5, 6, 7, 8, 9}}, {Name: "main", Regs: 2, Locals: []int{10}},
	} {
		f := p.Fns[n]
		f.Code = nil
		if !sameFn(f, want) {
			t.Errorf("%v, want %v", f, want)
		}
	}
	if got, want := code(p, 1), "r4 = &f.c; store1 r4 r0; r5 = &f.i; store4 r5 r1; r6 = &f.l; store8 r6 r2; r7 = &f.p; store8 r7 r3; r8 = &f.g; r9 = &f.i; r10 = load4 r9; store4 r8 r10; r11 = &f.g; r12 = load4 r11; return r12; return"; got != want {
		t.Errorf(" got: %s\nwant: %s", got, want)
	}
	if len(p.Fns) != 3 || p.Main != 2 {
		t.Errorf("%d functions, of which main is %d", len(p.Fns), p.Main)
	}
	for n, s := range []string{"int main() { return 0; } void f() { } void g() { }", "void f() { } int main() { return 0; } void g() { }", "int g; void f() { } struct s { int x; }; void h() { } int main() { return 0; } int k;"} {
		if p := lowered(t, s); p.Main != n || p.Fns[n].Name != "main" {
			t.Errorf("%s: main is %d", s, p.Main)
		}
	}
}

// Names refer to what is declared, wherever that is.
func TestNames(t *testing.T) {
	s := "int x; int y; void f(int x, char y) { x; y; { long x; x; y; long y; y; { char x; x; } x; } x; y; if (x) int x = y; else { int x; x; } while (x) char x = 1; x; } int main() { x; int x; x; y; return 0; }"
	p := lowered(t, s)
	var got []string
	for _, f := range p.Fns {
		for _, i := range f.Code {
			if i.Op == api.OpAddr {
				got = append(got, siteName(p, i.B)[strings.LastIndex(siteName(p, i.B), ".")+1:])
			}
		}
	}
	want := "x y x y x#6 y y#7 x#8 x#6 x y x x#9 y x#10 x x#11 x x x y"
	if s := strings.Join(got, " "); s != want {
		t.Errorf("\n got: %s\nwant: %s", s, want)
	}
	if l := p.Fns[0].Locals; !slices.Equal(l, []int{4, 5, 6, 7, 8, 9, 10, 11}) || !slices.Equal(p.Fns[1].Locals, []int{12}) {
		t.Errorf("locals %v and %v", l, p.Fns[1].Locals)
	}
}
