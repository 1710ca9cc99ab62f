package gen_test

import (
	"math/rand/v2"
	"slices"
	"strconv"
	"strings"
	"testing"

	"crosstree/api"
	"crosstree/gen"
	"crosstree/ir"
)

// A second gen, which reads the table as it stands in the chapter.

const table = `| OpAddr | ConBase with A a and Loc (site B, offset 0) |
| OpMalloc | ConBase with A a and Loc (site N, offset 0) |
| OpAdd | ConAdd with A a, B b, N, if N is from -4096 to 4096 |
| OpIndex | ConAny with A a, B b, N, if N is from 0 to 4096 |
| OpBin with + | ConAny with A a, B b, N 1; ConAny with A a, B c, N 1 |
| OpBin with - | ConAny with A a, B b, N 1 |
| OpFit with W 1 or 8 | ConCopy with A a, B b |
| OpLoad with W 1 or 8 | ConLoad with A a, B b, N W |
| OpStore with W 1 or 8 | ConStore with A a, B b, N W |
| OpCopy | ConMove with A a, B b, N |
| OpMove | ConMove with A a, B b, N -1 |
| OpCall | for each of Args in order: ConCopy with A the variable of the callee's parameter, B that of the argument; then ConCopy with A a, B the result of the callee |
| OpCallP | ConCall with A a, B b, Args the variables of Args |
| OpReturn with A not -1 | ConCopy with A the result of the function, B a |`

func opNames() []string {
	return []string{"", "OpConst", "OpAddr", "OpAdd", "OpIndex", "OpBin", "OpUn", "OpFit", "OpLoad", "OpStore", "OpCopy", "OpMove", "OpFill", "OpMalloc", "OpFree", "OpCall", "OpCallP", "OpJump", "OpIf", "OpReturn", "OpInput"}
}

func conNames() []string {
	return []string{"", "ConBase", "ConCopy", "ConAdd", "ConAny", "ConLoad", "ConStore", "ConMove", "ConCall"}
}

// A row is an instruction that the table has, and its constraints.
type row struct{ op, with, cons string }

var rows = func() []row {
	var l []row
	for line := range strings.Lines(table) {
		cells := strings.Split(strings.TrimSpace(line), " | ")
		op, with, _ := strings.Cut(strings.TrimPrefix(cells[0], "| "), " with ")
		l = append(l, row{op, with, strings.TrimSuffix(cells[1], " |")})
	}
	return l
}()

// applies tells whether an instruction is as its row says.
func (r row) applies(i api.Insn) bool {
	if r.op != opNames()[i.Op] {
		return false
	}
	switch r.with {
	case "":
		return true
	case "W 1 or 8":
		return i.W == 1 || i.W == 8
	case "A not -1":
		return i.A != -1
	}
	return i.Sign == r.with
}

// A spot is an instruction in a program, with the numbers of all variables.
type spot struct {
	p      api.Prog
	vars   map[[2]int]int // of a function's registers, and behind them its result
	fn, pc int
	i      api.Insn
}

func (s spot) variable(r int) int {
	n, found := s.vars[[2]int{s.fn, r}]
	if !found {
		panic("no variable of " + strconv.Itoa(r))
	}
	return n
}

// value is what a text of the table stands for, at the argument k.
func (s spot) value(text string, k int) int {
	switch text {
	case "a":
		return s.variable(s.i.A)
	case "b":
		return s.variable(s.i.B)
	case "c":
		return s.variable(s.i.C)
	case "W":
		return s.i.W
	case "the variable of the callee's parameter":
		return s.vars[[2]int{int(s.i.N), k}]
	case "that of the argument":
		return s.variable(s.i.Args[k])
	case "the result of the callee":
		return s.vars[[2]int{int(s.i.N), s.p.Fns[s.i.N].Regs}]
	case "the result of the function":
		return s.vars[[2]int{s.fn, s.p.Fns[s.fn].Regs}]
	}
	n, e := strconv.Atoi(text)
	if e != nil {
		panic(text)
	}
	return n
}

// fill sets the field that a text of the table says, as "B b"; it tells false if the text is a condition that doesn't hold.
func (s spot) fill(c *api.Con, field string, k int) bool {
	name, text, _ := strings.Cut(field, " ")
	switch name {
	case "A":
		c.A = s.value(text, k)
	case "B":
		c.B = s.value(text, k)
	case "N":
		c.N = int(s.i.N)
		if text != "" {
			c.N = s.value(text, k)
		}
	case "Loc":
		c.Loc.Site = map[string]int{"(site B; offset 0)": s.i.B, "(site N; offset 0)": int(s.i.N)}[text]
	case "Args":
		for _, r := range s.i.Args {
			c.Args = append(c.Args, s.variable(r))
		}
	case "if":
		l := strings.Fields(text) // N is from x to y
		low, _ := strconv.ParseInt(l[3], 10, 64)
		high, _ := strconv.ParseInt(l[5], 10, 64)
		return low <= s.i.N && s.i.N <= high
	default:
		panic(field)
	}
	return true
}

// con is the constraint of a text of the table.
func (s spot) con(text string, k int) []api.Con {
	kind, fields, _ := strings.Cut(text, " with ")
	c := api.Con{Kind: slices.Index(conNames(), kind), Fn: s.fn, Pc: s.pc}
	fields = strings.ReplaceAll(fields, ", offset", "; offset")
	for _, field := range strings.Split(strings.ReplaceAll(fields, " and ", ", "), ", ") {
		if !s.fill(&c, field, k) {
			return nil
		}
	}
	return []api.Con{c}
}

// cons are the constraints of a row.
func (s spot) cons(r row) []api.Con {
	var l []api.Con
	for _, text := range strings.Split(r.cons, "; ") {
		each, found := strings.CutPrefix(text, "for each of Args in order: ")
		if !found {
			l = append(l, s.con(strings.TrimPrefix(text, "then "), 0)...)
			continue
		}
		for k := range s.i.Args {
			l = append(l, s.con(each, k)...)
		}
	}
	return l
}

// numbers numbers the variables of a program, and tells each function's first one.
func numbers(p api.Prog) (map[[2]int]int, []int) {
	vars := map[[2]int]int{}
	var first []int
	for fn, f := range p.Fns {
		first = append(first, len(vars))
		for r := range f.Regs {
			vars[[2]int{fn, r}] = len(vars)
		}
		vars[[2]int{fn, f.Regs}] = len(vars)
	}
	return vars, first
}

func reference(p api.Prog) []api.Con {
	vars, _ := numbers(p)
	var l []api.Con
	for fn, f := range p.Fns {
		for pc, i := range f.Code {
			for _, r := range rows {
				if r.applies(i) {
					l = append(l, spot{p, vars, fn, pc, i}.cons(r)...)
				}
			}
		}
	}
	return l
}

// wantAsReference holds both functions against the second ones, for a well-formed program, and returns the constraints.
func wantAsReference(t *testing.T, p api.Prog) []api.Con {
	t.Helper()
	if fn, pc, e := ir.Check(p); e != api.OK {
		t.Fatalf("%v isn't well-formed: %d at %d, %d", p, e, fn, pc)
	}
	vars, first := numbers(p)
	wantVars(t, p, first, len(vars))
	got, want := gen.Gen(p), reference(p)
	if !slices.EqualFunc(got, want, same) {
		t.Fatalf("Gen(%v) = %v, want %v", p, got, want)
	}
	wantExisting(t, p, got)
	return got
}

// wantExisting holds P17.3, and that fields without a meaning are 0.
func wantExisting(t *testing.T, p api.Prog, l []api.Con) {
	t.Helper()
	_, all := gen.Vars(p)
	for _, c := range l {
		for _, v := range append([]int{c.A, c.B}, c.Args...) {
			if v < 0 || v >= all {
				t.Fatalf("%v refers to the variable %d of %d", c, v, all)
			}
		}
		if c.Loc.Site < 0 || c.Loc.Site >= len(p.Sites) || c.Loc.Off != 0 {
			t.Fatalf("%v refers to a place that there isn't", c)
		}
		if c.Fn < 0 || c.Fn >= len(p.Fns) || c.Pc < 0 || c.Pc >= len(p.Fns[c.Fn].Code) {
			t.Fatalf("%v comes from no instruction", c)
		}
		wantEmptyFields(t, c)
	}
}

func wantEmptyFields(t *testing.T, c api.Con) {
	t.Helper()
	isBase := c.Kind == api.ConBase
	if c.Kind < api.ConBase || c.Kind > api.ConCall {
		t.Fatalf("%v has no Kind", c)
	}
	if isBase && c.B != 0 || !isBase && c.Loc != (api.Loc{}) || c.Kind != api.ConCall && len(c.Args) != 0 {
		t.Fatalf("%v has more than its Kind asks for", c)
	}
	if c.N != 0 && (isBase || c.Kind == api.ConCopy || c.Kind == api.ConCall) {
		t.Fatalf("%v has an N", c)
	}
}

// All instructions of few numbers, in the middle function of three.
func TestAllSmallInstructions(t *testing.T) {
	p := api.Prog{Sites: []api.Site{{Kind: api.SiteFunc}, {Kind: api.SiteFunc}, {Kind: api.SiteFunc}, {Kind: api.SiteGlobal}, {Kind: api.SiteHeap}, {Kind: api.SiteHeap}}, Fns: []api.Fn{
		{Regs: 2, Params: 1, Code: []api.Insn{stop}},
		{Regs: 3, Params: 2, Code: []api.Insn{{}, stop}},
		{Code: []api.Insn{stop}},
	}}
	counts := make([]int, 21)
	for op := range counts {
		for a := -1; a < 3; a++ {
			for b := range 6 {
				for c := range 3 {
					for n := int64(-1); n < 6; n++ {
						for k, args := range [][]int{nil, {0}, {2, 1}, {2, 2}} {
							i := api.Insn{Op: op, A: a, B: b, C: c, W: []int{1, 4, 8, 2}[(k+a+1)%4], N: n, Sign: []string{"-", "+", "~", "*"}[(k+c)%4], Args: args}
							p.Fns[1].Code[0] = i
							if _, _, e := ir.Check(p); e == api.OK {
								counts[op]++
								wantAsReference(t, p)
							}
						}
					}
				}
			}
		}
	}
	if slices.Min(counts[1:]) < 20 || counts[0] > 0 {
		t.Errorf("only so many instructions of each Op are well-formed: %v", counts)
	}
}

type maker struct{ *rand.Rand }

// some picks one of a list.
func some[E any](m maker, l ...E) E {
	return l[m.IntN(len(l))]
}

// insn is a well-formed instruction of a function.
func (m maker) insn(p api.Prog, f api.Fn) api.Insn {
	register := func() int { return m.IntN(f.Regs) }
	i := api.Insn{Op: 1 + m.IntN(20), A: register(), B: register(), C: register(), W: some(m, 1, 4, 8), N: int64(m.IntN(20) - 10)}
	args := m.IntN(7)
	switch i.Op {
	case api.OpAddr:
		i.B = m.IntN(len(p.Sites))
	case api.OpAdd, api.OpIndex:
		i.N = some(m, i.N, -4096, -4097, 4096, 4097, 1<<40, -1<<40, int64(m.IntN(10000)-5000))
	case api.OpBin:
		i.Sign = some(m, "+", "-", "+", "-", "*", "/", "==", "!=", "<=")
	case api.OpUn:
		i.Sign = some(m, "-", "~")
	case api.OpCopy:
		i.N = some(m, 0, 1, 4096, int64(m.IntN(4096)))
	case api.OpMalloc:
		i.N = int64(len(p.Sites) - 1 - m.IntN(2))
	case api.OpCall:
		i.N = int64(m.IntN(len(p.Fns)))
		args = p.Fns[i.N].Params
	case api.OpJump, api.OpIf:
		i.N = int64(m.IntN(len(f.Code)))
	case api.OpReturn:
		i.A = some(m, i.A, i.A, -1)
	}
	for range args {
		i.Args = append(i.Args, register())
	}
	return i
}

// prog is a well-formed program.
func (m maker) prog() api.Prog {
	var p api.Prog
	for range 1 + m.IntN(5) {
		regs := 1 + m.IntN(9)
		p.Fns = append(p.Fns, api.Fn{Regs: regs, Params: m.IntN(min(regs, 6) + 1), Code: make([]api.Insn, 1+m.IntN(12))})
		p.Sites = append(p.Sites, api.Site{Kind: api.SiteFunc})
	}
	p.Main = m.IntN(len(p.Fns))
	for range m.IntN(4) {
		p.Sites = append(p.Sites, api.Site{Kind: some(m, api.SiteGlobal, api.SiteHeap), Func: -1})
	}
	for n := range p.Fns {
		for range m.IntN(3) {
			p.Fns[n].Locals = append(p.Fns[n].Locals, len(p.Sites))
			p.Sites = append(p.Sites, api.Site{Kind: api.SiteLocal, Func: n})
		}
	}
	p.Sites = append(p.Sites, api.Site{Kind: api.SiteHeap, Size: 8}, api.Site{Kind: api.SiteHeap, Size: -1})
	for _, f := range p.Fns {
		for pc := range f.Code {
			f.Code[pc] = m.insn(p, f)
		}
		f.Code[len(f.Code)-1] = some(m, stop, api.Insn{Op: api.OpReturn}, api.Insn{Op: api.OpJump})
	}
	return p
}

func TestRandomPrograms(t *testing.T) {
	m := maker{rand.New(rand.NewPCG(17, 1))}
	counts := make([]int, api.ConCall+1)
	for range 20000 {
		for _, c := range wantAsReference(t, m.prog()) {
			counts[c.Kind]++
		}
	}
	if slices.Min(counts[1:]) < 1000 {
		t.Errorf("the constraints have these Kinds: %v", counts)
	}
}

func sources() []string {
	return []string{
		"int main() { return 0; }",
		"int g; int *p; int main() { p = &g; return 0; }",
		"struct s { int a[3]; char *p; struct s *next; }; struct s g[2]; int main() { struct s x; x = g[1]; x.next = &x; x.next->p = (char *)g[0].a; memcpy(&g, &x, input()); memcpy(&g, &x, 32); memset(&x, 0, 8); return x.a[2]; }",
		"int twice(int x) { return x * 2; } int minus(int x) { return -x; } int (*t[2])(int); int main() { t[0] = twice; t[1] = &minus; int i = 0; int s = 0; while (i < 2) { s = s + t[i](21); i = i + 1; } return s; }",
		"void *c(void *p) { return p; } int main() { void *p = malloc(8); long *l = c(p); *l = 6; int v = *l; free(c(l)); return v; }",
		"char *last(char *p, long n) { if (n == 0) return p; return last(p + 1, n - 1); } char b[9]; int main() { char *e = last(b, 8); long n = e - b; char c = *(e - n); while (1) { if (c) break; else c = ~c; } return (int)(long)&b[n]; }",
		"union u { char *p; char b[8]; }; union u x; union u y; int main() { int i = 0; x.p = (char *)malloc(100); while (i < 8) { y.b[i] = x.b[i]; i = i + 1; } return y.p == x.p; }",
	}
}

func TestSources(t *testing.T) {
	kinds := map[int]bool{}
	for _, s := range sources() {
		for _, c := range wantAsReference(t, program(t, s)) {
			kinds[c.Kind] = true
		}
	}
	if len(kinds) != api.ConCall {
		t.Errorf("the sources have constraints of the Kinds %v only", kinds)
	}
}
