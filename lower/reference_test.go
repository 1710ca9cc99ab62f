package lower_test

import (
	"math/rand/v2"
	"slices"
	"strings"
	"testing"

	"crosstree/api"
	"crosstree/check"
	"crosstree/ctype"
	"crosstree/layout"
	"crosstree/lower"
	"crosstree/parse"
	"crosstree/show"
)

// A second lowering, written as the chapter's definitions: expressions and statements are lists of instructions that are put together, jumps lead to labels that are resolved at last.

type refLowering struct {
	recs             []api.Rec
	functions        int
	sites            []api.Site
	number           int
	result           api.T
	variables        []int // their sites
	fresh            int
	labels           int
	toBreak, toStart []int // labels of the loops around
}

// A label in a list of instructions is one with the Op 0. Jumps have labels as N till they are resolved.
func label(n int) []api.Insn {
	return []api.Insn{{N: int64(n)}}
}

func refLower(n api.Node, recs []api.Rec) (api.Prog, api.Errno) {
	r := &refLowering{recs: recs}
	p := api.Prog{}
	for _, k := range n.Kids {
		if k.Kind == api.NodeFunc {
			r.sites = append(r.sites, api.Site{Kind: api.SiteFunc, Name: k.Text, T: k.T, Func: r.functions})
			r.functions++
		}
	}
	for _, k := range n.Kids {
		if k.Kind == api.NodeGlobal {
			r.sites = append(r.sites, api.Site{Kind: api.SiteGlobal, Name: k.Text, T: k.T, Size: int(r.bytes(k.T)), Func: -1})
		}
	}
	for _, k := range n.Kids {
		if k.Kind == api.NodeFunc {
			if k.Text == "main" {
				p.Main = len(p.Fns)
			}
			p.Fns = append(p.Fns, r.function(k, len(p.Fns)))
		}
	}
	p.Sites = r.sites
	tooLarge := len(p.Fns) > 200 || len(p.Sites) > 600
	for _, f := range p.Fns {
		tooLarge = tooLarge || f.Regs > 4000 || len(f.Code) > 4000
	}
	if tooLarge {
		return api.Prog{}, api.ErrSize
	}
	return p, api.OK
}

func (r *refLowering) bytes(t api.T) int64 {
	n, _, e := layout.Size(r.recs, t)
	if e != api.OK {
		panic("a type without a size")
	}
	return int64(n)
}

// declared finds the declaration with that number in a tree.
func declared(n api.Node, number int64) (api.Node, bool) {
	if n.Kind == api.NodeDecl && n.N == number {
		return n, true
	}
	for _, k := range n.Kids {
		if d, ok := declared(k, number); ok {
			return d, true
		}
	}
	return api.Node{}, false
}

func (r *refLowering) function(n api.Node, number int) api.Fn {
	params := n.Kids[:len(n.Kids)-1]
	r.number, r.result, r.variables, r.fresh = number, n.T.Of[0], nil, len(params)
	for {
		d, ok := declared(n, int64(1000+len(r.variables)))
		if !ok {
			break
		}
		r.variables = append(r.variables, len(r.sites))
		r.sites = append(r.sites, api.Site{Kind: api.SiteLocal, Name: d.Text, T: d.T, Size: int(r.bytes(d.T)), Func: number})
	}
	var l []api.Insn
	for i, k := range params {
		a, at := r.op(api.Insn{Op: api.OpAddr, B: r.variables[i]})
		l = slices.Concat(l, a, []api.Insn{{Op: api.OpStore, A: at, B: i, W: ctype.Width(k.T)}})
	}
	l = slices.Concat(l, r.statement(n.Kids[len(params)]), []api.Insn{{Op: api.OpReturn, A: -1}})
	return api.Fn{Name: n.Text, Params: len(params), Regs: r.fresh, Locals: r.variables, Code: resolved(l)}
}

// resolved is the code without labels.
func resolved(l []api.Insn) []api.Insn {
	at := map[int64]int{}
	var code []api.Insn
	for _, i := range l {
		if i.Op == 0 {
			at[i.N] = len(code)
		} else {
			code = append(code, i)
		}
	}
	for pc, i := range code {
		if i.Op == api.OpJump || i.Op == api.OpIf {
			code[pc].N = int64(at[i.N])
		}
	}
	return code
}

func (r *refLowering) newLabel() int {
	r.labels++
	return r.labels
}

// op is an instruction that writes a fresh register.
func (r *refLowering) op(i api.Insn) ([]api.Insn, int) {
	i.A = r.fresh
	r.fresh++
	return []api.Insn{i}, i.A
}

func jumpTo(n int) []api.Insn {
	return []api.Insn{{Op: api.OpJump, N: int64(n)}}
}

func jumpIf(a, n int) []api.Insn {
	return []api.Insn{{Op: api.OpIf, A: a, N: int64(n)}}
}

func (r *refLowering) statement(n api.Node) []api.Insn {
	switch n.Kind {
	case api.NodeExpr:
		l, _ := r.value(n.Kids[0])
		return l
	case api.NodeBlock:
		var l []api.Insn
		for _, k := range n.Kids {
			l = append(l, r.statement(k)...)
		}
		return l
	case api.NodeDecl:
		if len(n.Kids) == 0 {
			return nil
		}
		l, _, _ := r.assignment(api.Node{Kind: api.NodeName, N: n.N, T: n.T}, n.Kids[0])
		return l
	case api.NodeReturn:
		if len(n.Kids) == 0 {
			return []api.Insn{{Op: api.OpReturn, A: -1}}
		}
		l, v := r.value(n.Kids[0])
		if w := ctype.Width(r.result); w < 8 {
			f, fit := r.op(api.Insn{Op: api.OpFit, B: v, W: w})
			l, v = slices.Concat(l, f), fit
		}
		return slices.Concat(l, []api.Insn{{Op: api.OpReturn, A: v}})
	case api.NodeIf:
		c, a := r.value(n.Kids[0])
		second, end := r.newLabel(), r.newLabel()
		first := r.statement(n.Kids[1])
		if len(n.Kids) == 2 {
			return slices.Concat(c, jumpIf(a, end), first, label(end))
		}
		return slices.Concat(c, jumpIf(a, second), first, jumpTo(end), label(second), r.statement(n.Kids[2]), label(end))
	case api.NodeWhile:
		start, end := r.newLabel(), r.newLabel()
		c, a := r.value(n.Kids[0])
		r.toStart, r.toBreak = append(r.toStart, start), append(r.toBreak, end)
		body := r.statement(n.Kids[1])
		r.toStart, r.toBreak = r.toStart[:len(r.toStart)-1], r.toBreak[:len(r.toBreak)-1]
		return slices.Concat(label(start), c, jumpIf(a, end), body, jumpTo(start), label(end))
	case api.NodeBreak:
		return jumpTo(r.toBreak[len(r.toBreak)-1])
	case api.NodeNext:
		return jumpTo(r.toStart[len(r.toStart)-1])
	}
	panic("no statement")
}

// assignment returns the code, and the registers of the address and the value.
func (r *refLowering) assignment(to, from api.Node) ([]api.Insn, int, int) {
	l, a := r.address(to)
	k, b := r.value(from)
	i := api.Insn{Op: api.OpCopy, A: a, B: b}
	if ctype.Scalar(to.T) {
		i.Op, i.W = api.OpStore, ctype.Width(to.T)
	} else {
		i.N = r.bytes(to.T)
	}
	return slices.Concat(l, k, []api.Insn{i}), a, b
}

func (r *refLowering) address(n api.Node) ([]api.Insn, int) {
	name := api.Insn{Op: api.OpAddr}
	switch {
	case n.Kind == api.NodeName && n.N < 1000:
		name.B = r.functions + int(n.N)
		return r.op(name)
	case n.Kind == api.NodeName && n.N < 2000:
		name.B = r.variables[n.N-1000]
		return r.op(name)
	case n.Kind == api.NodeName:
		name.B = int(n.N - 2000)
		return r.op(name)
	case n.Kind == api.NodeIndex:
		l, b := r.value(n.Kids[0])
		k, i := r.value(n.Kids[1])
		o, a := r.op(api.Insn{Op: api.OpIndex, B: b, C: i, N: r.bytes(n.T)})
		return slices.Concat(l, k, o), a
	case n.Kind == api.NodeDot:
		l, b := r.address(n.Kids[0])
		return r.member(l, b, n.Kids[0].T, n.Text)
	case n.Kind == api.NodeArrow:
		l, b := r.value(n.Kids[0])
		return r.member(l, b, n.Kids[0].T.Of[0], n.Text) // of an array and of a pointer
	case n.Kind == api.NodeUnary && n.Text == "*":
		return r.value(n.Kids[0])
	}
	return r.value(n)
}

func (r *refLowering) member(l []api.Insn, b int, t api.T, name string) ([]api.Insn, int) {
	f, e := layout.Find(r.recs, t, name)
	if e != api.OK {
		panic("no such field")
	}
	o, a := r.op(api.Insn{Op: api.OpAdd, B: b, N: int64(f.Off)})
	return slices.Concat(l, o), a
}

func (r *refLowering) value(n api.Node) ([]api.Insn, int) {
	switch {
	case n.Kind == api.NodeNumber:
		return r.op(api.Insn{Op: api.OpConst, N: n.N})
	case n.Kind == api.NodeName && n.N >= 2000:
		return r.address(n)
	case n.Kind == api.NodeUnary && n.Text == "&":
		return r.address(n.Kids[0])
	case n.Kind == api.NodeUnary && n.Text == "!":
		l, k := r.value(n.Kids[0])
		o, z := r.op(api.Insn{Op: api.OpConst})
		b, v := r.op(api.Insn{Op: api.OpBin, B: k, C: z, Sign: "=="})
		return slices.Concat(l, o, b), v
	case n.Kind == api.NodeUnary && n.Text != "*":
		l, k := r.value(n.Kids[0])
		o, v := r.op(api.Insn{Op: api.OpUn, B: k, Sign: n.Text})
		return slices.Concat(l, o), v
	case n.Kind == api.NodeBinary:
		return r.binary(n)
	case n.Kind == api.NodeAssign:
		l, a, b := r.assignment(n.Kids[0], n.Kids[1])
		switch ctype.Width(n.T) {
		case 0:
			return l, a
		case 8:
			return l, b
		}
		o, v := r.op(api.Insn{Op: api.OpFit, B: b, W: ctype.Width(n.T)})
		return slices.Concat(l, o), v
	case n.Kind == api.NodeCast:
		l, k := r.value(n.Kids[0])
		if ctype.Width(n.T) == 8 {
			return l, k
		}
		o, v := r.op(api.Insn{Op: api.OpFit, B: k, W: ctype.Width(n.T)})
		return slices.Concat(l, o), v
	case n.Kind == api.NodeCall:
		return r.call(n)
	}
	l, a := r.address(n)
	if !ctype.Scalar(n.T) {
		return l, a
	}
	o, v := r.op(api.Insn{Op: api.OpLoad, B: a, W: ctype.Width(n.T)})
	return slices.Concat(l, o), v
}

func (r *refLowering) binary(n api.Node) ([]api.Insn, int) {
	t, u := ctype.Decay(n.Kids[0].T), ctype.Decay(n.Kids[1].T)
	l, a := r.value(n.Kids[0])
	k, b := r.value(n.Kids[1])
	l = slices.Concat(l, k)
	left, right := t.Kind == api.TPtr, u.Kind == api.TPtr
	if n.Text != "+" && n.Text != "-" || !left && !right {
		o, v := r.op(api.Insn{Op: api.OpBin, B: a, C: b, Sign: n.Text})
		return slices.Concat(l, o), v
	}
	if n.Text == "-" && left && right {
		o, d := r.op(api.Insn{Op: api.OpBin, B: a, C: b, Sign: "-"})
		o2, c := r.op(api.Insn{Op: api.OpConst, N: r.bytes(t.Of[0])})
		o3, v := r.op(api.Insn{Op: api.OpBin, B: d, C: c, Sign: "/"})
		return slices.Concat(l, o, o2, o3), v
	}
	if right {
		a, b, t = b, a, u
	}
	if n.Text == "-" {
		o, m := r.op(api.Insn{Op: api.OpUn, B: b, Sign: "-"})
		l, b = slices.Concat(l, o), m
	}
	o, v := r.op(api.Insn{Op: api.OpIndex, B: a, C: b, N: r.bytes(t.Of[0])})
	return slices.Concat(l, o), v
}

func (r *refLowering) call(n api.Node) ([]api.Insn, int) {
	var l []api.Insn
	i := api.Insn{Op: api.OpCallP}
	number := int64(-1)
	if n.Kids[0].Kind == api.NodeName {
		number = n.Kids[0].N
	}
	if number < 2000 {
		l, i.B = r.value(n.Kids[0])
	}
	args := n.Kids[1:]
	short := number == 3002 && args[2].Kind == api.NodeNumber && args[2].N <= 4096
	if short {
		args = args[:2]
	}
	var registers []int
	for _, k := range args {
		code, v := r.value(k)
		l, registers = slices.Concat(l, code), append(registers, v)
	}
	switch {
	case number >= 3000:
		registers = append(registers, 0, 0, 0)
		i = []api.Insn{{Op: api.OpMalloc, B: registers[0]}, {Op: api.OpFree, A: registers[0]}, {Op: api.OpMove, A: registers[0], B: registers[1], C: registers[2]}, {Op: api.OpFill, A: registers[0], B: registers[1], C: registers[2]}, {Op: api.OpInput}}[number-3000]
	case number >= 2000:
		i = api.Insn{Op: api.OpCall, N: number - 2000, Args: registers}
	default:
		i.Args = registers
	}
	if short {
		i.Op, i.C, i.N = api.OpCopy, 0, n.Kids[3].N
	}
	if number == 3000 {
		s := api.Site{Kind: api.SiteHeap, Name: "malloc", Func: -1, Size: -1}
		if k := args[0]; k.Kind == api.NodeNumber && 1 <= k.N && k.N <= 4096 {
			s.Size = int(k.N)
		}
		i.N = int64(len(r.sites))
		r.sites = append(r.sites, s)
	}
	if number > 3000 && number < 3004 {
		return slices.Concat(l, []api.Insn{i}), -1
	}
	o, v := r.op(i)
	return slices.Concat(l, o), v
}

// wantAsReference checks a unit and lowers it twice, if it is valid, which it reports.
func wantAsReference(t *testing.T, n api.Node) (bool, api.Errno) {
	t.Helper()
	unit, recs, _, e := check.Check(n)
	if e != api.OK {
		return false, e
	}
	got, e := lower.Lower(unit, recs)
	want, e2 := refLower(unit, recs)
	if e != e2 || !sameProg(got, want) {
		t.Fatalf("%s: the error %d, want %d\n got: %v\nwant: %v", shortened(show.Text(n)), e, e2, got, want)
	}
	if e == api.OK {
		wantWellFormed(t, got)
	}
	return true, e
}

func node(kind int, text string, kids ...api.Node) api.Node {
	return api.Node{Kind: kind, Text: text, Kids: kids}
}

func nameNode(s string) api.Node {
	return node(api.NodeName, s)
}

func parsed(t *testing.T, s string) api.Node {
	t.Helper()
	n, at, e := parse.Parse(s)
	if e != api.OK {
		t.Fatalf("%s: Parse has the error %d at %d", shortened(s), e, at)
	}
	return n
}

// locals are declared in each function that expressions are put in.
const locals = "char xc; long xl; int *xp; struct s xv; struct s *xk; int xa[2][3]; int (*xq)(int, char *);"

// withLocals is a unit of head and a main with the locals.
func withLocals(t *testing.T) api.Node {
	t.Helper()
	return parsed(t, within(locals))
}

// inMain is the unit with the statements l at the end of its last function, which is main.
func inMain(unit api.Node, l ...api.Node) api.Node {
	unit.Kids = slices.Clone(unit.Kids)
	f := unit.Kids[len(unit.Kids)-1]
	f.Kids = []api.Node{node(api.NodeBlock, "", append(slices.Clone(f.Kids[0].Kids), l...)...)}
	unit.Kids[len(unit.Kids)-1] = f
	return unit
}

// atoms are the least expressions.
func atoms() []api.Node {
	l := []api.Node{{Kind: api.NodeNumber}, {Kind: api.NodeNumber, N: 1}, {Kind: api.NodeNumber, N: 4097}}
	for _, x := range []api.T{int4, recE} {
		l = append(l, api.Node{Kind: api.NodeSizeof, T: x})
	}
	for _, s := range strings.Fields("c i p r w v k o y x m b pp q h j fs f g t main malloc free input xc xl xp xv xk xa xq") {
		l = append(l, nameNode(s))
	}
	return l
}

func castTypes() []api.T {
	return []api.T{char, int4, long, pointer(int4), pointer(void), pointer(recS), pointer(function(int4, int4, pointer(char))), pointer(function(recS))}
}

// ofOne are the expressions of one other.
func ofOne(a api.Node) []api.Node {
	var l []api.Node
	for _, sign := range []string{"-", "~", "!", "*", "&"} {
		l = append(l, node(api.NodeUnary, sign, a))
	}
	for _, x := range castTypes() {
		l = append(l, api.Node{Kind: api.NodeCast, T: x, Kids: []api.Node{a}})
	}
	for _, s := range strings.Fields("a n b m d i") {
		l = append(l, node(api.NodeDot, s, a), node(api.NodeArrow, s, a))
	}
	return append(l, node(api.NodeCall, "", a))
}

// ofTwo are the expressions of two others.
func ofTwo(a, b api.Node) []api.Node {
	l := []api.Node{node(api.NodeAssign, "", a, b), node(api.NodeIndex, "", a, b), node(api.NodeCall, "", a, b)}
	for _, sign := range strings.Fields("+ - * / % & | ^ << >> == != < <= > >=") {
		l = append(l, node(api.NodeBinary, sign, a, b))
	}
	return l
}

// ofThree are calls of two or three others.
func ofThree(a, b, c api.Node) []api.Node {
	l := []api.Node{node(api.NodeCall, "", a, b, c)}
	for _, s := range strings.Fields("memcpy memset") {
		l = append(l, node(api.NodeCall, "", nameNode(s), a, b, c))
	}
	for _, s := range strings.Fields("f q xq") {
		l = append(l, node(api.NodeCall, "", nameNode(s), a, b))
	}
	return l
}

// valid are those of the expressions that are valid in main, each with its annotated type.
func valid(unit api.Node, l []api.Node) ([]api.Node, []api.T) {
	var ok []api.Node
	var types []api.T
	for _, n := range l {
		checked, _, _, e := check.Check(inMain(unit, node(api.NodeExpr, "", n)))
		if e != api.OK {
			continue
		}
		kids := checked.Kids[len(checked.Kids)-1].Kids[0].Kids
		ok, types = append(ok, n), append(types, kids[len(kids)-1].Kids[0].T)
	}
	return ok, types
}

func smallExpressions() []api.Node {
	l := atoms()
	for _, a := range atoms() {
		l = append(l, ofOne(a)...)
		for _, b := range atoms() {
			l = append(l, ofTwo(a, b)...)
		}
	}
	return l
}

// wantAllAsReference lowers expressions, some of them at a time.
func wantAllAsReference(t *testing.T, unit api.Node, l []api.Node) {
	t.Helper()
	for some := range slices.Chunk(l, 60) {
		var statements []api.Node
		for _, n := range some {
			statements = append(statements, node(api.NodeExpr, "", n))
		}
		if ok, e := wantAsReference(t, inMain(unit, statements...)); !ok || e != api.OK {
			t.Fatalf("%s: the error %d", shortened(show.Text(inMain(unit, statements...))), e)
		}
	}
}

func TestAllSmallExpressions(t *testing.T) {
	unit := withLocals(t)
	l, _ := valid(unit, smallExpressions())
	if len(l) < 1500 {
		t.Errorf("only %d are valid", len(l))
	}
	wantAllAsReference(t, unit, l)
}

// pool is valid expressions, and those of them that are numbers, and that are scalar.
type pool struct {
	*rand.Rand
	all, numbers, scalars []api.Node
}

func pick(p *pool, l []api.Node) api.Node {
	return l[p.IntN(len(l))]
}

func (p *pool) add(unit api.Node, l []api.Node) {
	ok, types := valid(unit, l)
	for i, n := range ok {
		if parse.Depth(n) > 9 {
			continue
		}
		p.all = append(p.all, n)
		if v := ctype.Decay(types[i]); ctype.Scalar(v) {
			p.scalars = append(p.scalars, n)
		}
		if ctype.Number(types[i]) {
			p.numbers = append(p.numbers, n)
		}
	}
}

// newPool makes greater and greater expressions of those that are valid.
func newPool(unit api.Node, seed uint64) *pool {
	p := &pool{Rand: rand.New(rand.NewPCG(9, seed))}
	p.add(unit, atoms())
	for _, a := range atoms() {
		p.add(unit, ofOne(a))
	}
	for i := range 6000 {
		l := ofOne(pick(p, p.all))
		switch i % 3 {
		case 0:
			l = ofTwo(pick(p, p.all), pick(p, p.all))
		case 1:
			l = ofThree(pick(p, p.all), pick(p, p.all), pick(p, p.all))
		}
		p.add(unit, []api.Node{l[p.IntN(len(l))]})
	}
	return p
}

func TestRandomExpressions(t *testing.T) {
	unit := withLocals(t)
	p := newPool(unit, 1)
	if len(p.all) < 1000 {
		t.Errorf("only %d are valid", len(p.all))
	}
	wantAllAsReference(t, unit, p.all)
}

// statement makes a statement; result is the expressions that may be returned, with none there is nothing to return.
func (p *pool) statement(deep, loops int, result []api.Node) api.Node {
	kind := p.IntN(12)
	if deep == 0 && kind < 5 {
		kind += 5
	}
	switch kind {
	case 0:
		return node(api.NodeBlock, "", p.statements(deep-1, loops, result)...)
	case 1:
		return node(api.NodeIf, "", pick(p, p.scalars), p.statement(deep-1, loops, result))
	case 2:
		return node(api.NodeIf, "", pick(p, p.scalars), p.statement(deep-1, loops, result), p.statement(deep-1, loops, result))
	case 3, 4:
		return node(api.NodeWhile, "", pick(p, p.scalars), p.statement(deep-1, loops+1, result))
	case 5:
		if loops > 0 {
			return node([]int{api.NodeBreak, api.NodeNext}[p.IntN(2)], "")
		}
	case 6:
		if len(result) == 0 {
			return node(api.NodeReturn, "")
		}
		return node(api.NodeReturn, "", pick(p, result))
	case 7:
		return p.declaration()
	}
	return node(api.NodeExpr, "", pick(p, p.all))
}

// declaration makes a declaration of a variable that may well be declared outside, with the same type.
func (p *pool) declaration() api.Node {
	number := pick(p, p.numbers)
	l := []api.Node{
		{Kind: api.NodeDecl, Text: "c", T: char, Kids: []api.Node{number}}, {Kind: api.NodeDecl, Text: "i", T: int4, Kids: []api.Node{number}}, {Kind: api.NodeDecl, Text: "xl", T: long, Kids: []api.Node{number}},
		{Kind: api.NodeDecl, Text: "v", T: recS, Kids: []api.Node{nameNode("xv")}}, {Kind: api.NodeDecl, Text: "xk", T: pointer(recS), Kids: []api.Node{nameNode("m")}}, {Kind: api.NodeDecl, Text: "w", T: pointer(void), Kids: []api.Node{nameNode("xp")}},
		{Kind: api.NodeDecl, Text: "m", T: array(2, recS)}, {Kind: api.NodeDecl, Text: "i", T: int4}, {Kind: api.NodeDecl, Text: "malloc2", T: recE},
	}
	return l[p.IntN(len(l))]
}

func (p *pool) statements(deep, loops int, result []api.Node) []api.Node {
	var l []api.Node
	for range p.IntN(4) {
		l = append(l, p.statement(deep, loops, result))
	}
	return l
}

// withBody is the unit with these statements at the end of the function with that index among the items.
func withBody(unit api.Node, item int, l []api.Node) {
	f := &unit.Kids[item]
	f.Kids = slices.Clone(f.Kids)
	f.Kids[len(f.Kids)-1] = node(api.NodeBlock, "", append(slices.Clone(f.Kids[len(f.Kids)-1].Kids), l...)...)
}

func TestRandomUnits(t *testing.T) {
	p := newPool(withLocals(t), 2)
	base := parsed(t, head+"void f0(char fc, int i, long fl, struct s *k) {"+locals+"} char f1(char c) {"+locals+"} long f2() {"+locals+"} int main() {"+locals+"} struct last { int x; };")
	bodies := len(base.Kids) - 5
	count, right := 0, 0
	for range 3000 {
		unit := base
		unit.Kids = slices.Clone(base.Kids)
		for n := range 4 {
			result := p.numbers
			if n == 0 {
				result = nil
			}
			withBody(unit, bodies+n, p.statements(4, 0, result))
		}
		ok, e := wantAsReference(t, unit)
		if ok {
			count++
		}
		if ok && e == api.OK {
			right++
		}
	}
	if count < 1500 || right < 1400 {
		t.Errorf("only %d are valid, and %d not too large", count, right)
	}
}

// Units of about the greatest size.
func TestRandomUnitsAtTheLimits(t *testing.T) {
	unit := withLocals(t)
	p := newPool(unit, 3)
	errors := map[api.Errno]int{}
	for range 60 {
		n := 400 + p.IntN(600)
		var l []api.Node
		for range n {
			l = append(l, node(api.NodeExpr, "", pick(p, p.all)))
		}
		ok, e := wantAsReference(t, inMain(unit, l...))
		if !ok {
			t.Fatal("a unit that isn't valid")
		}
		errors[e]++
	}
	if errors[api.OK] < 10 || errors[api.ErrSize] < 10 {
		t.Errorf("too few of an error: %v", errors)
	}
}
