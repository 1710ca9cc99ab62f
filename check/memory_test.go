package check_test

import (
	"math"
	"slices"
	"strings"
	"testing"

	"crosstree/api"
	"crosstree/check"
	"crosstree/parse"
)

// R2, R3 and P1: whose memory it is, and that every call ends.

func copyOfType(x api.T) api.T {
	var l []api.T
	for _, p := range x.Of {
		l = append(l, copyOfType(p))
	}
	x.Of = l
	return x
}

func copyOfNode(n api.Node) api.Node {
	var l []api.Node
	for _, k := range n.Kids {
		l = append(l, copyOfNode(k))
	}
	n.T, n.Kids = copyOfType(n.T), l
	return n
}

func copyOfRecs(l []api.Rec) []api.Rec {
	l = slices.Clone(l)
	for i, r := range l {
		l[i].T, l[i].Fields = copyOfType(r.T), slices.Clone(r.Fields)
		for j, f := range r.Fields {
			l[i].Fields[j].T = copyOfType(f.T)
		}
	}
	return l
}

// overwriteType puts something else in all of a type's lists, and in the room behind them.
func overwriteType(x api.T) {
	l := x.Of[:cap(x.Of)]
	for i := range l {
		overwriteType(l[i])
		l[i] = api.T{Kind: 77, N: 77, Name: "gone"}
	}
}

func overwriteNode(n api.Node) {
	overwriteType(n.T)
	l := n.Kids[:cap(n.Kids)]
	for i := range l {
		overwriteNode(l[i])
		l[i] = api.Node{Kind: 77, Text: "gone", N: 77}
	}
}

func overwriteRecs(l []api.Rec) {
	for i, r := range l {
		overwriteType(r.T)
		for j, f := range r.Fields {
			overwriteType(f.T)
			r.Fields[j] = api.Field{Name: "gone", Off: 77}
		}
		l[i] = api.Rec{Size: 77}
	}
}

// roomy is the tree n with room behind all lists, also behind the empty ones.
func roomy(n api.Node) api.Node {
	var typ func(x api.T) api.T
	typ = func(x api.T) api.T {
		l := make([]api.T, 0, len(x.Of)+2)
		for _, p := range x.Of {
			l = append(l, typ(p))
		}
		x.Of = l
		return x
	}
	l := make([]api.Node, 0, len(n.Kids)+2)
	for _, k := range n.Kids {
		l = append(l, roomy(k))
	}
	n.T, n.Kids = typ(n.T), l
	return n
}

func sources() []string {
	return []string{richSource, within("nobody;"), "struct s { int *a; struct s b; };", "int g; int g;", "int *(*g)(int *); void f() { }", within(many(201, "int *v#;"))}
}

func TestArgumentsStay(t *testing.T) {
	for _, s := range sources() {
		for _, n := range []api.Node{parsed(t, s), roomy(parsed(t, s))} {
			before := copyOfNode(n)
			unit, recs, _, _ := check.Check(n)
			if !sameNode(n, before) {
				t.Errorf("%s: the argument is changed", shortened(s))
			}
			overwriteNode(unit)
			overwriteRecs(recs)
			if !sameNode(n, before) {
				t.Errorf("%s: the argument changes with the answer", shortened(s))
			}
		}
	}
}

func TestAnswersStay(t *testing.T) {
	n := roomy(parsed(t, richSource))
	unit, recs, _, _ := check.Check(n)
	wantUnit, wantRecs := copyOfNode(unit), copyOfRecs(recs)
	other, otherRecs, _, _ := check.Check(n)
	overwriteNode(n)
	overwriteNode(other)
	overwriteRecs(otherRecs)
	if !sameNode(unit, wantUnit) || !slices.EqualFunc(recs, wantRecs, sameRec) {
		t.Error("the answer changes with the argument or with another answer")
	}
	overwriteNode(unit)
	if !slices.EqualFunc(recs, wantRecs, sameRec) {
		t.Error("the records change with the unit")
	}
}

// lists are the first places of all lists of an answer.
func lists(n api.Node, recs []api.Rec) (types []*api.T, kids []*api.Node) {
	var addType func(x api.T)
	addType = func(x api.T) {
		if cap(x.Of) > 0 {
			types = append(types, &x.Of[:1][0])
		}
		for _, p := range x.Of {
			addType(p)
		}
	}
	var addNode func(n api.Node)
	addNode = func(n api.Node) {
		addType(n.T)
		if cap(n.Kids) > 0 {
			kids = append(kids, &n.Kids[:1][0])
		}
		for _, k := range n.Kids {
			addNode(k)
		}
	}
	addNode(n)
	for _, r := range recs {
		addType(r.T)
		for _, f := range r.Fields {
			addType(f.T)
		}
	}
	return types, kids
}

func distinct[P comparable](l []P) bool {
	m := map[P]struct{}{}
	for _, p := range l {
		m[p] = struct{}{}
	}
	return len(m) == len(l)
}

// Not even the room behind a list is shared with the argument.
func TestListsOfTheArgumentAreNotShared(t *testing.T) {
	for _, s := range sources() {
		n := roomy(parsed(t, s))
		unit, recs, _, _ := check.Check(n)
		types, kids := lists(n, nil)
		types2, kids2 := lists(unit, recs)
		if !distinct(append(types, types2...)) || !distinct(append(kids, kids2...)) {
			t.Errorf("%s: the answer shares memory with the argument", shortened(s))
		}
	}
}

func TestListsOfAnAnswerAreNotShared(t *testing.T) {
	for _, s := range []string{richSource, within("p = p = *pp = &i; q = q = &f; *&*&p; k->n->n; (int **)w; int *n = p; int **nn = &n; f(1, r); j().n;")} {
		for _, n := range []api.Node{parsed(t, s), roomy(parsed(t, s)), wantOK(t, s)} {
			unit, recs, _, _ := check.Check(n)
			types, kids := lists(unit, recs)
			if len(types) < 20 || len(kids) < 20 || !distinct(types) || !distinct(kids) {
				t.Errorf("%s: lists of the answer are shared", shortened(s))
			}
		}
	}
}

func TestNilAndEmptyLists(t *testing.T) {
	for _, s := range sources() {
		n := parsed(t, s)
		unit, recs, at, e := check.Check(n)
		unit2, recs2, at2, e2 := check.Check(roomy(n))
		if !sameNode(unit, unit2) || !slices.EqualFunc(recs, recs2, sameRec) || at != at2 || e != e2 {
			t.Errorf("%s: empty lists are not as nil ones", shortened(s))
		}
	}
}

func TestTheSameAnswerEachTime(t *testing.T) {
	for _, s := range sources() {
		n := parsed(t, s)
		unit, recs, at, e := check.Check(n)
		for range 20 {
			unit2, recs2, at2, e2 := check.Check(n)
			if !sameNode(unit, unit2) || !slices.EqualFunc(recs, recs2, sameRec) || at != at2 || e != e2 {
				t.Fatalf("%s: other answers", shortened(s))
			}
		}
	}
}

// wantEnd checks a unit that Parse doesn't return: beside an error all results are zero.
func wantEnd(t *testing.T, n api.Node) {
	t.Helper()
	unit, recs, at, e := check.Check(n)
	if e != api.OK && (!sameNode(unit, api.Node{}) || len(recs) > 0) || e == api.OK && at != 0 || at < 0 || at > len(n.Kids) {
		t.Errorf("the error %d at %d, with a unit or records beside it", e, at)
	}
}

// oddTypes are types that Parse doesn't return.
func oddTypes() []api.T {
	wide := api.T{Kind: api.TFunc, Of: make([]api.T, 1<<20)}
	deep := int4
	for range 65000 {
		deep = pointer(deep)
	}
	shared := pointer(int4)
	for range 25 {
		shared = pointer(function(int4, shared, shared, shared, shared, shared, shared))
	}
	self := api.T{Kind: api.TPtr, Of: make([]api.T, 1)}
	self.Of[0] = self
	arr := api.T{Kind: api.TArr, N: 1, Of: make([]api.T, 1)}
	arr.Of[0] = arr
	l := []api.T{wide, deep, shared, self, arr, {Kind: api.TArr, N: 0, Of: []api.T{int4}}, {Kind: api.TArr, N: math.MaxInt, Of: []api.T{int4}}, {Kind: api.TInt, N: 3}, {Kind: api.TInt, Name: "x"}, {Kind: api.TStruct}, function()}
	for k := -1; k <= api.TFunc+1; k++ {
		l = append(l, api.T{Kind: k}, api.T{Kind: k, N: 2, Name: "s", Of: []api.T{int4, {}}}, api.T{Kind: k, Of: []api.T{{Kind: k}}})
	}
	return l
}

func TestOddTypes(t *testing.T) {
	for _, x := range oddTypes() {
		for _, n := range []api.Node{
			{Kind: api.NodeGlobal, Text: "x", T: x}, {Kind: api.NodeFunc, Text: "x", T: x, Kids: []api.Node{node(api.NodeBlock, "")}}, {Kind: api.NodeFunc, Text: "x", T: function(x), Kids: []api.Node{node(api.NodeBlock, "")}},
			{Kind: api.NodeFunc, Text: "x", T: function(int4, x), Kids: []api.Node{{Kind: api.NodeDecl, Text: "y", T: x}, node(api.NodeBlock, "")}}, {Kind: api.NodeFunc, Text: "x", T: function(int4, int4), Kids: []api.Node{{Kind: api.NodeDecl, Text: "y", T: x}, node(api.NodeBlock, "")}},
			{Kind: api.NodeRecord, T: x}, {Kind: api.NodeRecord, T: recS, Kids: []api.Node{{Kind: api.NodeDecl, Text: "y", T: x}}},
		} {
			unit := parsed(t, "int main() { return 0; }")
			unit.Kids = append(unit.Kids, n)
			wantEnd(t, unit)
		}
		for k := -1; k <= api.NodeUnit+1; k++ {
			n := api.Node{Kind: k, Text: "*", T: x, Kids: []api.Node{nameNode("p")}}
			unit := parsed(t, within(""))
			wantEnd(t, inMain(unit, n))
			wantEnd(t, inMain(unit, node(api.NodeExpr, "", n)))
			n.Kids = append(n.Kids, nameNode("i"))
			wantEnd(t, inMain(unit, node(api.NodeExpr, "", n)))
		}
	}
}

// A type that is small in memory, and has more parts than a source can have, isn't gone through wherever it is.
func TestTypesThatAreTooGreat(t *testing.T) {
	x := pointer(int4)
	for range 25 {
		x = pointer(function(int4, x, x, x, x, x, x))
	}
	unit := parsed(t, within(""))
	field := api.Node{Kind: api.NodeDecl, Text: "x", T: x}
	for _, n := range []api.Node{
		inMain(unit, field), inMain(unit, node(api.NodeExpr, "", api.Node{Kind: api.NodeCast, T: x, Kids: []api.Node{nameNode("i")}})), inMain(unit, node(api.NodeExpr, "", api.Node{Kind: api.NodeSizeof, T: x})),
		node(api.NodeUnit, "", append([]api.Node{{Kind: api.NodeGlobal, Text: "x", T: x}}, unit.Kids...)...), node(api.NodeUnit, "", append([]api.Node{{Kind: api.NodeRecord, T: recNo, Kids: []api.Node{field}}}, unit.Kids...)...),
		node(api.NodeUnit, "", append([]api.Node{{Kind: api.NodeFunc, Text: "x", T: function(void, x), Kids: []api.Node{field, node(api.NodeBlock, "")}}}, unit.Kids...)...),
		node(api.NodeUnit, "", append([]api.Node{{Kind: api.NodeFunc, Text: "x", T: function(x), Kids: []api.Node{node(api.NodeBlock, "")}}}, unit.Kids...)...),
	} {
		if _, _, at, e := check.Check(n); e != api.ErrSize || at != 0 {
			t.Errorf("the error %d at %d", e, at)
		}
	}
}

// A unit may have as many levels as those that Parse returns.
func TestLevels(t *testing.T) {
	for n, want := range map[int]api.Errno{240: api.OK, 244: api.OK, 245: api.OK, 246: api.ErrSize, 247: api.ErrSize, 1000: api.ErrSize} {
		x := api.Node{Kind: api.NodeNumber}
		for range n {
			x = node(api.NodeUnary, "-", x)
		}
		unit := inMain(parsed(t, within("")), node(api.NodeExpr, "", x))
		if _, _, at, e := check.Check(unit); e != want || at != 0 {
			t.Errorf("%d levels: the error %d at %d", parse.Depth(unit), e, at)
		}
	}
}

// The types that annotate are no part of what is checked.
func TestTypesOfExpressionsDoNotMatter(t *testing.T) {
	for _, x := range oddTypes() {
		unit := inMain(parsed(t, within("")), node(api.NodeExpr, "", api.Node{Kind: api.NodeBinary, Text: "+", T: x, Kids: []api.Node{{Kind: api.NodeName, Text: "p", T: x}, {Kind: api.NodeNumber, T: x}}}), api.Node{Kind: api.NodeReturn, T: x, Kids: []api.Node{{Kind: api.NodeNumber}}})
		if _, _, at, e := check.Check(unit); e != api.OK {
			t.Errorf("the error %d at %d", e, at)
		}
	}
}

// Nodes of all kinds with any number of kids of all kinds, as units, as items, as statements and as expressions.
func TestOddNodes(t *testing.T) {
	unit := parsed(t, within(""))
	for k := -1; k <= api.NodeUnit+1; k++ {
		for in := -1; in <= api.NodeUnit+1; in++ {
			for kids := range 5 {
				for _, x := range []api.T{{}, int4, pointer(int4), function(int4), function(int4, int4, int4)} {
					inner := api.Node{Kind: in, Text: "p", N: 5, T: x}
					n := api.Node{Kind: k, Text: "main", N: -1, T: x, Kids: slices.Repeat([]api.Node{inner}, kids)}
					wantEnd(t, n)
					wantEnd(t, node(api.NodeUnit, "", n))
					wantEnd(t, node(api.NodeUnit, "", unit.Kids[headItems], n))
					wantEnd(t, inMain(unit, n))
					wantEnd(t, inMain(unit, node(api.NodeExpr, "", n)))
					wantEnd(t, inMain(unit, node(api.NodeWhile, "", nameNode("i"), n)))
				}
			}
		}
	}
}

// What an item or a statement lacks, or has too much of, is an error in its place.
func TestPartsThatAreMissing(t *testing.T) {
	unit := parsed(t, within(""))
	block, one := node(api.NodeBlock, ""), api.Node{Kind: api.NodeNumber, N: 1}
	wantType := func(n api.Node, want int) {
		t.Helper()
		if _, _, at, e := check.Check(n); e != api.ErrType || at != want {
			t.Errorf("%v: the error %d at %d", n.Kids[at], e, at)
		}
	}
	for _, kids := range [][]api.Node{nil, {block}, {block, block}, {{Kind: api.NodeDecl, Text: "x", T: int4}}, {{Kind: api.NodeDecl, Text: "x", T: int4}, one}, {{Kind: api.NodeDecl, Text: "x", T: int4}, node(api.NodeExpr, "", one)}, {one, block}, {{Kind: api.NodeName, Text: "x", T: int4}, block}, {{Kind: api.NodeDecl, Text: "x", T: int4}, block, block}} {
		bad := unit
		bad.Kids = append(slices.Clone(unit.Kids), api.Node{Kind: api.NodeFunc, Text: "odd", T: function(void, int4), Kids: kids})
		wantType(bad, headItems+1)
	}
	for _, x := range []api.T{{}, int4, function(), pointer(function(void))} {
		bad := unit
		bad.Kids = append(slices.Clone(unit.Kids), api.Node{Kind: api.NodeFunc, Text: "odd", T: x, Kids: []api.Node{block}})
		wantType(bad, headItems+1)
	}
	for _, n := range []api.Node{
		{Kind: api.NodeDecl, Text: "x", T: int4, Kids: []api.Node{one, one}}, node(api.NodeExpr, ""), node(api.NodeExpr, "", one, one), node(api.NodeIf, ""), node(api.NodeIf, "", one), node(api.NodeIf, "", one, block, block, block),
		node(api.NodeWhile, ""), node(api.NodeWhile, "", one), node(api.NodeWhile, "", one, block, block), node(api.NodeWhile, "", one, api.Node{}), node(api.NodeReturn, "", one, one), one, node(api.NodeUnit, ""), node(api.NodeExpr, "", block), node(api.NodeExpr, "", node(api.NodeExpr, "", one)), {},
		node(api.NodeExpr, "", node(api.NodeCall, "")), node(api.NodeExpr, "", node(api.NodeUnary, "-")), node(api.NodeExpr, "", node(api.NodeUnary, "-", one, one)), node(api.NodeExpr, "", node(api.NodeBinary, "+", one)), node(api.NodeExpr, "", node(api.NodeBinary, "+", one, one, one)), node(api.NodeExpr, "", node(api.NodeCast, "")),
	} {
		wantType(inMain(unit, n), headItems)
	}
	for _, sign := range []string{"", "+", "+ ", "**", "&&", "||", "=", "->", "--", "\x00"} {
		if sign != "+" {
			wantType(inMain(unit, node(api.NodeExpr, "", node(api.NodeBinary, sign, one, one))), headItems)
		}
		wantType(inMain(unit, node(api.NodeExpr, "", node(api.NodeUnary, sign, one))), headItems)
	}
}

// A unit is checked only as one.
func TestOnlyUnits(t *testing.T) {
	n := parsed(t, richSource)
	for k := -1; k <= api.NodeUnit+1; k++ {
		n.Kind = k
		if _, _, _, e := check.Check(n); (e == api.OK) != (k == api.NodeUnit) {
			t.Errorf("a unit of the kind %d: the error %d", k, e)
		}
	}
	if _, _, at, e := check.Check(api.Node{}); e != api.ErrType || at != 0 {
		t.Errorf("no unit: the error %d at %d", e, at)
	}
}

func TestTreesThatAreDeepOrWideOrHoldThemselves(t *testing.T) {
	unit := parsed(t, within(""))
	for _, kind := range []int{api.NodeUnary, api.NodeBlock, api.NodeIf, api.NodeCall, api.NodeUnit, api.NodeFunc, api.NodeDot} {
		self := api.Node{Kind: kind, Text: "-", T: function(int4), Kids: make([]api.Node, 2)}
		self.Kids[0], self.Kids[1] = self, self
		wantEnd(t, self)
		wantEnd(t, node(api.NodeUnit, "", self))
		wantEnd(t, inMain(unit, self))
		wantEnd(t, inMain(unit, node(api.NodeExpr, "", self)))
		deep, shared := nameNode("i"), nameNode("i")
		for range 65000 {
			deep = node(kind, "-", deep)
		}
		for range 100 {
			shared = node(kind, "-", shared, shared)
		}
		for _, n := range []api.Node{deep, shared, node(kind, "-", make([]api.Node, 1<<20)...)} {
			wantEnd(t, n)
			wantEnd(t, node(api.NodeUnit, "", n))
			wantEnd(t, inMain(unit, n))
			wantEnd(t, inMain(unit, node(api.NodeExpr, "", n)))
		}
	}
}

// The greatest sources that Parse reads are within all limits.
func TestGreatSources(t *testing.T) {
	fill := func(first, each, last string) string {
		return first + strings.Repeat(each, (api.MaxBytes-len(first)-len(last))/len(each)) + last
	}
	for _, s := range []string{
		fill("int main(){", ";", "return 0;}"), fill("int g;int main(){", "g;", "return 0;}"), fill("int*g;int main(){", "*&*g;", "return 0;}"), fill("int g;int main(){", "g=g=g=g=g;", "return 0;}"), fill("void g(){}int main(){", "g();", "return 0;}"),
		fill("int "+strings.Repeat("*", 59)+"g;int main(){", "g;", "return 0;}"), fill("struct s{char a[9];};int main(){", "sizeof(struct s);", "return 0;}"), fill("int main(){", "{;}", "return 0;}"),
		"void f(int(*a)(" + strings.Repeat("int"+strings.Repeat("*", 56)+",", 5) + "int)){} int main(){return 0;}",
		"int g;int main(){" + strings.Repeat(strings.Repeat("{", 50)+strings.Repeat("}", 50), 190) + strings.Repeat("-", 50) + "g;return 0;}",
		"int main(){return " + strings.Repeat("1+", 200) + "1;}",
	} {
		n := wantOK(t, s)
		if _, _, at, e := check.Check(n); e != api.OK {
			t.Errorf("%.100s: checked again, the error %d at %d", s, e, at)
		}
	}
	// A type that is too great for any variable is an error in its place, not one of memory.
	wantError(t, fill("int x;int ", "*", "g;int main(){return 0;}"), 1, api.ErrType)
	wantError(t, fill("int x;int main(){return 0;}void f(int ", "*", "a){}"), 2, api.ErrType)
	wantError(t, fill("int x;int main(){int ", "*", "v;return 0;}"), 1, api.ErrType)
	wantError(t, fill("int x;int main(){sizeof(int ", "*", ");return 0;}"), 1, api.ErrType)
}
