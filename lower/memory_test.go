package lower_test

import (
	"math"
	"slices"
	"strings"
	"testing"

	"crosstree/api"
	"crosstree/check"
	"crosstree/ctype"
	"crosstree/lower"
)

// R2, R3 and P1: whose memory it is, and that every call ends.

// richSource has everything of which there are lists.
const richSource = head + `struct last { int *a[3]; int (*f)(int *, struct s *); }; struct last g1[2]; int (*g2[2])(int *, struct s *);
int *rich(int *a, int (*b)(int *, struct s *), struct last *c) { int *v[2][3]; int (*w)(int *, struct s *) = b; while (w(a, k)) { struct last x = *c; v[1][2] = malloc(8); memcpy(&x, c, 8); if (*a) break; } return c->a[1]; }
int main() { int (*w)(int *, struct s *); rich(a, w, 0); f(1, r); (*w)(p, k); return q(1, 0); }`

func copyOfType(x api.T) api.T {
	var l []api.T
	for _, p := range x.Of {
		l = append(l, copyOfType(p))
	}
	x.Of = l
	return x
}

func copyOfNode(n api.Node) api.Node {
	var l []api.Node
	for _, k := range n.Kids {
		l = append(l, copyOfNode(k))
	}
	n.T, n.Kids = copyOfType(n.T), l
	return n
}

func copyOfRecs(l []api.Rec) []api.Rec {
	l = slices.Clone(l)
	for i, r := range l {
		l[i].T, l[i].Fields = copyOfType(r.T), slices.Clone(r.Fields)
		for j, f := range r.Fields {
			l[i].Fields[j].T = copyOfType(f.T)
		}
	}
	return l
}

func copyOfProg(p api.Prog) api.Prog {
	p.Sites, p.Fns = slices.Clone(p.Sites), slices.Clone(p.Fns)
	for k, s := range p.Sites {
		p.Sites[k].T = copyOfType(s.T)
	}
	for n, f := range p.Fns {
		f.Locals, f.Code = slices.Clone(f.Locals), slices.Clone(f.Code)
		for pc, i := range f.Code {
			f.Code[pc].Args = slices.Clone(i.Args)
		}
		p.Fns[n] = f
	}
	return p
}

func sameNode(n, m api.Node) bool {
	return n.Kind == m.Kind && n.Text == m.Text && n.N == m.N && ctype.Same(n.T, m.T) && slices.EqualFunc(n.Kids, m.Kids, sameNode)
}

func sameRec(r, q api.Rec) bool {
	return ctype.Same(r.T, q.T) && r.Size == q.Size && r.Align == q.Align && slices.EqualFunc(r.Fields, q.Fields, func(f, g api.Field) bool {
		return f.Name == g.Name && f.Off == g.Off && ctype.Same(f.T, g.T)
	})
}

// overwriteType puts something else in all of a type's lists, and in the room behind them.
func overwriteType(x api.T) {
	l := x.Of[:cap(x.Of)]
	for i := range l {
		overwriteType(l[i])
		l[i] = api.T{Kind: 77, N: 77, Name: "gone"}
	}
}

func overwriteNode(n api.Node) {
	overwriteType(n.T)
	l := n.Kids[:cap(n.Kids)]
	for i := range l {
		overwriteNode(l[i])
		l[i] = api.Node{Kind: 77, Text: "gone", N: 77}
	}
}

func overwriteRecs(l []api.Rec) {
	for i, r := range l {
		overwriteType(r.T)
		for j, f := range r.Fields {
			overwriteType(f.T)
			r.Fields[j] = api.Field{Name: "gone", Off: 77}
		}
		l[i] = api.Rec{Size: 77}
	}
}

func overwriteProg(p api.Prog) {
	for k, s := range p.Sites {
		overwriteType(s.T)
		p.Sites[k] = api.Site{Kind: 77}
	}
	for n, f := range p.Fns {
		for pc, i := range f.Code {
			for k := range i.Args {
				i.Args[k] = 77
			}
			f.Code[pc] = api.Insn{Op: 77}
		}
		for k := range f.Locals {
			f.Locals[k] = 77
		}
		p.Fns[n] = api.Fn{Name: "gone"}
	}
}

// roomy is the tree n with room behind all lists, also behind the empty ones.
func roomy(n api.Node) api.Node {
	var typ func(x api.T) api.T
	typ = func(x api.T) api.T {
		l := make([]api.T, 0, len(x.Of)+2)
		for _, p := range x.Of {
			l = append(l, typ(p))
		}
		x.Of = l
		return x
	}
	l := make([]api.Node, 0, len(n.Kids)+2)
	for _, k := range n.Kids {
		l = append(l, roomy(k))
	}
	n.T, n.Kids = typ(n.T), l
	return n
}

func sources() []string {
	return []string{richSource, within("&v; return 0;"), "int main() { " + many(4000, "1;") + "}", "int main() { return 0; }"}
}

func TestArgumentsStay(t *testing.T) {
	for _, s := range sources() {
		n, recs := checked(t, s)
		for _, n := range []api.Node{n, roomy(n)} {
			before, recsBefore := copyOfNode(n), copyOfRecs(recs)
			p, _ := lower.Lower(n, recs)
			if !sameNode(n, before) || !slices.EqualFunc(recs, recsBefore, sameRec) {
				t.Errorf("%s: an argument is changed", shortened(s))
			}
			overwriteProg(p)
			if !sameNode(n, before) || !slices.EqualFunc(recs, recsBefore, sameRec) {
				t.Errorf("%s: an argument changes with the answer", shortened(s))
			}
		}
	}
}

func TestAnswersStay(t *testing.T) {
	n, recs := checked(t, richSource)
	p, e := lower.Lower(n, recs)
	want := copyOfProg(p)
	other, e2 := lower.Lower(n, recs)
	overwriteNode(n)
	overwriteRecs(recs)
	overwriteProg(other)
	if e != api.OK || e2 != api.OK || !sameProg(p, want) {
		t.Error("the answer changes with an argument or with another answer")
	}
}

// addresses are where lists begin, also those of which there is only the room.
type addresses struct {
	types   []*api.T
	numbers []*int
}

func (a *addresses) addType(x api.T) {
	if cap(x.Of) > 0 {
		a.types = append(a.types, &x.Of[:1][0])
	}
	for _, p := range x.Of {
		a.addType(p)
	}
}

func (a *addresses) addNode(n api.Node) {
	a.addType(n.T)
	for _, k := range n.Kids {
		a.addNode(k)
	}
}

func (a *addresses) addRecs(l []api.Rec) {
	for _, r := range l {
		a.addType(r.T)
		for _, f := range r.Fields {
			a.addType(f.T)
		}
	}
}

func (a *addresses) addProg(p api.Prog) {
	for _, s := range p.Sites {
		a.addType(s.T)
	}
	for _, f := range p.Fns {
		lists := [][]int{f.Locals}
		for _, i := range f.Code {
			lists = append(lists, i.Args)
		}
		for _, l := range lists {
			if cap(l) > 0 {
				a.numbers = append(a.numbers, &l[:1][0])
			}
		}
	}
}

func distinct[P comparable](l []P) bool {
	m := map[P]struct{}{}
	for _, p := range l {
		m[p] = struct{}{}
	}
	return len(m) == len(l)
}

// No two lists of an answer are shared, nor is one of them shared with an argument.
func TestListsAreNotShared(t *testing.T) {
	for _, s := range sources() {
		n, recs := checked(t, s)
		for _, n := range []api.Node{n, roomy(n)} {
			a := &addresses{}
			p, _ := lower.Lower(n, recs)
			a.addProg(p)
			a.addNode(n)
			a.addRecs(recs)
			if !distinct(a.types) || !distinct(a.numbers) {
				t.Errorf("%s: lists are shared", shortened(s))
			}
			if s == richSource && (len(a.types) < 50 || len(a.numbers) < 8) {
				t.Errorf("only %d and %d lists", len(a.types), len(a.numbers))
			}
		}
	}
}

func TestTheSameAnswerEachTime(t *testing.T) {
	for _, s := range sources() {
		n, recs := checked(t, s)
		p, e := lower.Lower(n, recs)
		for _, m := range []api.Node{n, n, roomy(n)} {
			if p2, e2 := lower.Lower(m, recs); e != e2 || !sameProg(p, p2) {
				t.Errorf("%s: other answers", shortened(s))
			}
		}
	}
}

// wantEnd lowers what needn't be a result of Check: beside an error there is no program, and every program is well-formed.
func wantEnd(t *testing.T, n api.Node, recs []api.Rec) {
	t.Helper()
	p, e := lower.Lower(n, recs)
	switch e {
	case api.OK:
		wantWellFormed(t, p)
	case api.ErrSize:
		if !sameProg(p, api.Prog{}) {
			t.Error("a program beside an error")
		}
	default:
		t.Errorf("the error %d", e)
	}
}

func TestUnitsThatAreNotChecked(t *testing.T) {
	wantEnd(t, api.Node{}, nil)
	for _, s := range []string{"", "int x;", "int f() { return 0; }", "int main() { return &main; }", "int main() { nobody; }", "int g; int g;", "struct s { struct s x; }; int main() { return 0; }", richSource, within("v.a = *p; return j().a;")} {
		n := parsed(t, s)
		for _, recs := range oddRecords() {
			wantEnd(t, n, recs)
		}
		_, recs := checked(t, richSource)
		wantEnd(t, n, recs)
	}
}

// oddRecords are lists of records that don't belong to the units.
func oddRecords() [][]api.Rec {
	self := make([]api.T, 1)
	self[0] = api.T{Kind: api.TArr, N: 1, Of: self}
	return [][]api.Rec{
		nil, {{}}, {{T: recS, Size: math.MaxInt, Align: -1}}, {{T: recS, Size: -5, Fields: []api.Field{{Name: "a", T: recS, Off: -1}, {Name: "n", T: self[0], Off: 5000}}}},
	}
}

func TestRecordsThatDoNotBelong(t *testing.T) {
	n, _ := checked(t, richSource)
	for _, recs := range oddRecords() {
		wantEnd(t, n, recs)
	}
}

// oddTypes are types that no unit has.
func oddTypes() []api.T {
	wide := api.T{Kind: api.TFunc, Of: make([]api.T, 1<<20)}
	deep, shared := int4, pointer(int4)
	for range 65000 {
		deep = pointer(deep)
	}
	for range 25 {
		shared = pointer(function(int4, shared, shared, shared, shared, shared, shared))
	}
	self := api.T{Kind: api.TPtr, Of: make([]api.T, 1)}
	self.Of[0] = self
	l := []api.T{wide, deep, shared, self, {Kind: api.TArr, Of: []api.T{int4}}, {Kind: api.TInt, N: 3}, recNo}
	for k := -1; k <= api.TFunc+1; k++ {
		l = append(l, api.T{Kind: k}, api.T{Kind: k, N: 2, Name: "s", Of: []api.T{int4, {}}})
	}
	return l
}

func TestOddTypes(t *testing.T) {
	unit := withLocals(t)
	for _, x := range oddTypes() {
		wantEnd(t, node(api.NodeUnit, "", append([]api.Node{{Kind: api.NodeGlobal, Text: "x", T: x}}, unit.Kids...)...), nil)
		wantEnd(t, node(api.NodeUnit, "", append([]api.Node{{Kind: api.NodeFunc, Text: "ff", T: x, Kids: []api.Node{node(api.NodeBlock, "")}}}, unit.Kids...)...), nil)
		for k := -1; k <= api.NodeUnit+1; k++ {
			n := api.Node{Kind: k, Text: "*", T: x, N: 3000, Kids: []api.Node{{Kind: api.NodeName, Text: "p", T: x, N: 1999}}}
			wantEnd(t, inMain(unit, n), nil)
			wantEnd(t, inMain(unit, node(api.NodeExpr, "", n)), nil)
		}
	}
}

// Nodes of all kinds with any number of kids of all kinds, as units, as items, as statements and as expressions.
func TestOddNodes(t *testing.T) {
	unit := parsed(t, "int *p; int main() { }")
	for k := -1; k <= api.NodeUnit+1; k++ {
		for in := -1; in <= api.NodeUnit+1; in++ {
			for kids := range 5 {
				for _, x := range []api.T{{}, int4, pointer(int4), function(int4), function(int4, int4, int4)} {
					inner := api.Node{Kind: in, Text: "p", N: 5000, T: x}
					n := api.Node{Kind: k, Text: "main", N: -1, T: x, Kids: slices.Repeat([]api.Node{inner}, kids)}
					wantEnd(t, n, nil)
					wantEnd(t, node(api.NodeUnit, "", n), nil)
					wantEnd(t, inMain(unit, n), nil)
					wantEnd(t, inMain(unit, node(api.NodeExpr, "", n)), nil)
					wantEnd(t, inMain(unit, node(api.NodeWhile, "", nameNode("p"), n)), nil)
				}
			}
		}
	}
}

// Numbers that no source has.
func TestNegativeNumbers(t *testing.T) {
	unit := withLocals(t)
	for _, n := range []int64{-1, -4096, math.MinInt64} {
		number := api.Node{Kind: api.NodeNumber, N: n}
		for _, x := range []api.Node{number, node(api.NodeCall, "", nameNode("malloc"), number), node(api.NodeCall, "", nameNode("memcpy"), nameNode("p"), nameNode("p"), number)} {
			unit := inMain(unit, node(api.NodeExpr, "", x))
			if _, _, _, e := check.Check(unit); e != api.OK {
				t.Errorf("Check has the error %d", e)
			}
			wantEnd(t, unit, nil)
		}
	}
}

func TestTreesThatAreDeepOrWideOrHoldThemselves(t *testing.T) {
	unit := withLocals(t)
	for _, kind := range []int{api.NodeUnary, api.NodeBlock, api.NodeIf, api.NodeCall, api.NodeUnit, api.NodeFunc, api.NodeDot} {
		self := api.Node{Kind: kind, Text: "-", T: function(int4), Kids: make([]api.Node, 2)}
		self.Kids[0], self.Kids[1] = self, self
		deep, shared := nameNode("i"), nameNode("i")
		for range 65000 {
			deep = node(kind, "-", deep)
		}
		for range 100 {
			shared = node(kind, "-", shared, shared)
		}
		for _, n := range []api.Node{self, deep, shared, node(kind, "-", make([]api.Node, 1<<20)...)} {
			wantEnd(t, n, nil)
			wantEnd(t, node(api.NodeUnit, "", n), nil)
			wantEnd(t, inMain(unit, n), nil)
			wantEnd(t, inMain(unit, node(api.NodeExpr, "", n)), nil)
		}
	}
}

// The greatest sources that Parse reads, whether or not they are too large.
func TestGreatSources(t *testing.T) {
	fill := func(first, each, last string) string {
		return first + strings.Repeat(each, (api.MaxBytes-len(first)-len(last))/len(each)) + last
	}
	for _, s := range []string{
		fill("int main(){", ";", "return 0;}"), fill("int g;int main(){", "g;", "return 0;}"), fill("int*g;int main(){", "*&*g;", "return 0;}"), fill("int g;int main(){", "g=g=g=g=g;", "return 0;}"), fill("void g(){}int main(){", "g();", "return 0;}"),
		fill("int "+strings.Repeat("*", 59)+"g;int main(){", "g;", "return 0;}"), fill("int main(){", "{;}", "return 0;}"), fill("int main(){", "malloc(1);", "return 0;}"), fill("int main(){", "while(1)break;", "return 0;}"),
		"void f(int(*a)(" + strings.Repeat("int"+strings.Repeat("*", 56)+",", 5) + "int)){} int main(){return 0;}",
		"int g;int main(){" + strings.Repeat(strings.Repeat("{", 50)+strings.Repeat("}", 50), 190) + strings.Repeat("-", 50) + "g;return 0;}",
		"int main(){return " + strings.Repeat("1+", 200) + "1;}", "int main(){" + strings.Repeat("while(1)", 57) + ";return 0;}", "int main(){" + strings.Repeat("if(1)", 55) + ";else return 0;}",
	} {
		n, recs := checked(t, s)
		wantEnd(t, n, recs)
		wantAsReference(t, n)
	}
}
