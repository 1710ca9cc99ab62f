package show_test

import (
	"math/rand/v2"
	"slices"
	"sort"
	"strings"
	"testing"

	"crosstree/api"
	"crosstree/parse"
	"crosstree/show"
)

// same reports whether two trees are the same.
func same(a, b api.Node) bool {
	return a.Kind == b.Kind && a.Text == b.Text && a.N == b.N && sameType(a.T, b.T) && slices.EqualFunc(a.Kids, b.Kids, same)
}

func sameType(a, b api.T) bool {
	return a.Kind == b.Kind && a.N == b.N && a.Name == b.Name && slices.EqualFunc(a.Of, b.Of, sameType)
}

// wantRoundTrip checks P3.5 for a unit, and answers its text.
func wantRoundTrip(t *testing.T, n api.Node) string {
	t.Helper()
	s := show.Text(n)
	again, at, e := parse.Parse(s)
	if e == api.ErrSize && at == 0 && len(s) > api.MaxBytes {
		return s
	}
	if e != api.OK || !same(n, again) {
		t.Fatalf("%q is read as %v, %d, %d, want %v", s, again, at, e, n)
	}
	if more := show.Text(again); more != s {
		t.Fatalf("%q is written as %q", s, more)
	}
	return s
}

// inFunction is a unit with nothing but the statements in a function.
func inFunction(l ...api.Node) api.Node {
	f := api.Node{Kind: api.NodeFunc, Text: "f", T: api.T{Kind: api.TFunc, Of: []api.T{void}}, Kids: []api.Node{{Kind: api.NodeBlock, Kids: l}}}
	return api.Node{Kind: api.NodeUnit, Kids: []api.Node{f}}
}

func exprStmt(n api.Node) api.Node {
	return api.Node{Kind: api.NodeExpr, Kids: []api.Node{n}}
}

// around are all sorts of expressions around others, with one operator of each precedence.
func around(kids []api.Node) []api.Node {
	var l []api.Node
	for _, a := range kids {
		l = append(l,
			api.Node{Kind: api.NodeUnary, Text: "-", Kids: []api.Node{a}},
			api.Node{Kind: api.NodeCast, T: intFromInt, Kids: []api.Node{a}},
			api.Node{Kind: api.NodeDot, Text: "b", Kids: []api.Node{a}},
			api.Node{Kind: api.NodeArrow, Text: "b", Kids: []api.Node{a}},
			api.Node{Kind: api.NodeCall, Kids: []api.Node{a}},
		)
		for _, b := range kids {
			for _, sign := range []string{"|", "^", "&", "==", "<", "<<", "+", "*"} {
				l = append(l, binary(a, sign, b))
			}
			for _, kind := range []int{api.NodeAssign, api.NodeIndex, api.NodeCall} {
				l = append(l, api.Node{Kind: kind, Kids: []api.Node{a, b}})
			}
		}
	}
	return l
}

// pairs are the places of the parentheses of s, two by two.
func pairs(s string) [][2]int {
	var l [][2]int
	var open []int
	for i, c := range []byte(s) {
		switch c {
		case '(':
			open = append(open, i)
		case ')':
			l = append(l, [2]int{open[len(open)-1], i})
			open = open[:len(open)-1]
		}
	}
	return l
}

// TestAllSmallExpressions holds P3.1 and P3.5 for every sort of expression in every sort: it is read again, and no parentheses stand there that nothing needs.
func TestAllSmallExpressions(t *testing.T) {
	leaves := []api.Node{nameNode("a"), {Kind: api.NodeNumber, N: 1}, {Kind: api.NodeSizeof, T: pointer(int4)}}
	small := append(around(leaves[:1]), leaves...)
	for _, n := range around(small) {
		unit := inFunction(exprStmt(n))
		s := wantRoundTrip(t, unit)
		for _, p := range pairs(s) {
			less := s[:p[0]] + s[p[0]+1:p[1]] + s[p[1]+1:]
			if again, _, e := parse.Parse(less); e == api.OK && same(again, unit) {
				t.Fatalf("%q is read as %q is", less, s)
			}
		}
	}
}

// maker makes trees of the shape that the parser returns.
type maker struct {
	r *rand.Rand
}

// one chooses one of l.
func one[E any](m maker, l ...E) E {
	return l[m.r.IntN(len(l))]
}

// some makes up to most of something.
func some[E any](m maker, most int, make func() E) []E {
	var l []E
	for range m.r.IntN(most + 1) {
		l = append(l, make())
	}
	return l
}

func (m maker) name() string {
	return one(m, "a", "b", "f", "_x1", "malloc", "structs", "Int", strings.Repeat("n", 24))
}

// plain makes a type without arrays and functions.
func (m maker) plain() api.T {
	t := one(m, void, char, int4, long, aStruct, aUnion)
	for range m.r.IntN(3) {
		t = pointer(t)
	}
	return t
}

// typename makes a type without arrays.
func (m maker) typename(deep int) api.T {
	t := m.plain()
	if deep == 0 || m.r.IntN(3) > 0 {
		return t
	}
	return pointerToFunc(append([]api.T{t}, some(m, 3, func() api.T { return m.typename(deep - 1) })...)...)
}

func (m maker) decl(kind int) api.Node {
	t := m.typename(2)
	for range m.r.IntN(3) {
		t = array(one(m, 1, 2, 97, 4096), t)
	}
	return api.Node{Kind: kind, Text: m.name(), T: t}
}

func (m maker) field() api.Node {
	return m.decl(api.NodeDecl)
}

func (m maker) item() api.Node {
	switch m.r.IntN(3) {
	case 0:
		return m.decl(api.NodeGlobal)
	case 1:
		return api.Node{Kind: api.NodeRecord, T: one(m, aStruct, aUnion), Kids: some(m, 3, m.field)}
	}
	n := api.Node{Kind: api.NodeFunc, Text: m.name(), T: api.T{Kind: api.TFunc, Of: []api.T{m.plain()}}, Kids: some(m, 3, m.field)}
	for _, k := range n.Kids {
		n.T.Of = append(n.T.Of, k.T)
	}
	n.Kids = append(n.Kids, api.Node{Kind: api.NodeBlock, Kids: some(m, 4, func() api.Node { return m.stmt(3) })})
	return n
}

func (m maker) stmt(deep int) api.Node {
	kinds := []int{api.NodeExpr, api.NodeDecl, api.NodeReturn, api.NodeBlock, api.NodeBreak, api.NodeNext}
	if deep > 0 {
		kinds = append(kinds, api.NodeIf, api.NodeWhile, api.NodeBlock, api.NodeIf)
	}
	n := api.Node{Kind: one(m, kinds...)}
	expr := func() api.Node { return m.expr(4) }
	switch n.Kind {
	case api.NodeExpr:
		n.Kids = []api.Node{expr()}
	case api.NodeDecl:
		n = m.field()
		n.Kids = some(m, 1, expr)
	case api.NodeReturn:
		n.Kids = some(m, 1, expr)
	case api.NodeBlock:
		n.Kids = some(m, min(deep, 1)*3, func() api.Node { return m.stmt(deep - 1) })
	case api.NodeWhile:
		n.Kids = []api.Node{expr(), m.stmt(deep - 1)}
	case api.NodeIf:
		n.Kids = []api.Node{expr(), m.stmt(deep - 1)}
		if !open(n.Kids[1]) && m.r.IntN(2) == 0 {
			n.Kids = append(n.Kids, m.stmt(deep-1))
		}
	}
	return n
}

// open reports whether an else after the statement would belong to an if in it.
func open(n api.Node) bool {
	switch n.Kind {
	case api.NodeIf:
		return len(n.Kids) == 2 || open(n.Kids[2])
	case api.NodeWhile:
		return open(n.Kids[1])
	}
	return false
}

func (m maker) expr(deep int) api.Node {
	if deep == 0 || m.r.IntN(6) == 0 {
		return one(m, nameNode(m.name()), api.Node{Kind: api.NodeNumber, N: one[int64](m, 0, 1, 97, 1<<63-1)})
	}
	kid := func() api.Node { return m.expr(deep - 1) }
	n := api.Node{Kind: one(m, api.NodeUnary, api.NodeBinary, api.NodeBinary, api.NodeBinary, api.NodeAssign, api.NodeIndex, api.NodeDot, api.NodeArrow, api.NodeCall, api.NodeCast, api.NodeSizeof)}
	n.Kids = []api.Node{kid()}
	switch n.Kind {
	case api.NodeUnary:
		n.Text = one(m, "-", "!", "~", "*", "&")
	case api.NodeBinary:
		n.Text = one(m, precedences...).sign
		n.Kids = append(n.Kids, kid())
	case api.NodeAssign, api.NodeIndex:
		n.Kids = append(n.Kids, kid())
	case api.NodeDot, api.NodeArrow:
		n.Text = m.name()
	case api.NodeCall:
		n.Kids = append(n.Kids, some(m, 3, kid)...)
	case api.NodeCast:
		n.T = m.typename(2)
	case api.NodeSizeof:
		n.T, n.Kids = m.typename(2), nil
	}
	return n
}

// wantLayout checks how the lines of a text lie: each one ends, none is empty or ends in a space, and a line lies at most one level deeper than the one before it.
func wantLayout(t *testing.T, s string) {
	t.Helper()
	if s != "" && !strings.HasSuffix(s, "\n") {
		t.Fatalf("%q doesn't end in a newline", s)
	}
	before := 0
	for line := range strings.Lines(s) {
		text := strings.TrimLeft(line, " ")
		spaces := len(line) - len(text)
		if spaces%2 != 0 || spaces > before+2 || text == "\n" || strings.HasSuffix(text, " \n") || strings.Contains(text, "  ") {
			t.Fatalf("the line %q of %q", line, s)
		}
		before = spaces
	}
}

// TestRandomTrees holds P3.5 for random units.
func TestRandomTrees(t *testing.T) {
	m := maker{rand.New(rand.NewPCG(7, 8))}
	for range 4000 {
		n := api.Node{Kind: api.NodeUnit, Kids: some(m, 3, m.item)}
		s := wantRoundTrip(t, n)
		wantLayout(t, s)
		items := ""
		for _, k := range n.Kids {
			items += show.Text(k)
		}
		if items != s {
			t.Fatalf("the items are written as %q, the unit as %q", items, s)
		}
	}
}

// TestLimitsOfParsing holds P3.5 for the greatest sources of a sort that are read.
func TestLimitsOfParsing(t *testing.T) {
	for _, c := range []struct{ before, open, middle, end, after string }{
		{"void f(){a", "+a", "", "", ";}"},
		{"void f(){a", "[1]", "", "", ";}"},
		{"void f(){a", ".b", "", "", ";}"},
		{"void f(){", "{", "", "}", "}"},
		{"void f(){", "if(a)", ";", "", "}"},
		{"void f(){", "if(a)", "b;", "else;", "}"},
		{"void f(){", "if(a);else ", "b;", "", "}"},
		{"void f(){", "while(a)", ";", "", "}"},
		{"void f(){", "a=", "a", "", ";}"},
		{"void f(){", "(", "a", "=a)", ";}"},
		{"void f(){", "-", "a", "", ";}"},
		{"void f(){", "-(a-", "a", ")", ";}"},
		{"void f(){", "a-(", "a", ")", ";}"},
		{"void f(){return ", "f(", "", ")", ";}"},
		{"void f(){int a=", "a[", "a", "]", ";}"},
		{"void f(){", "(int)", "a", "", ";}"},
		{"void f(){", "((int)", "a", ")[1]", ";}"},
		{"void f(){", "a;", "", "", "}"},
		{"void f(){sizeof(", "int(*)(", "", ")", ");}"},
		{"int ", "*", "a", "", ";"},
		{"int f(int ", "*", "a", "", "){}"},
		{"int a", "[1]", "", "", ";"},
		{"int(*a)(", "int(*)(", "", ")", ");"},
		{"int f(int a", ",int a", "", "", "){}"},
		{"", "int a;", "", "", ""},
		{"", "int f(){}", "", "", ""},
		{"struct s{", "int a;", "", "", "};"},
	} {
		source := func(n int) string {
			return c.before + strings.Repeat(c.open, n) + c.middle + strings.Repeat(c.end, n) + c.after
		}
		wrong := sort.Search(api.MaxBytes, func(n int) bool {
			_, _, e := parse.Parse(source(n))
			return e != api.OK
		})
		if wrong < 6 {
			t.Fatalf("%q isn't read", source(wrong))
		}
		wantLayout(t, wantRoundTrip(t, read(t, source(wrong-1))))
	}
}

// TestTextsThatAreTooLong: a text may be longer than a source may be.
func TestTextsThatAreTooLong(t *testing.T) {
	for s, want := range map[string]string{
		"void f(){" + strings.Repeat("a;", 9990) + "}":                                               "void f()\n{\n" + strings.Repeat("  a;\n", 9990) + "}\n",
		strings.Repeat("void f(){}", 2000):                                                           strings.Repeat("void f()\n{\n}\n", 2000),
		strings.Repeat("struct s{};", 1818):                                                          strings.Repeat("struct s {\n};\n", 1818),
		"void f(){" + strings.Repeat("{", 58) + strings.Repeat(";", 19000) + strings.Repeat("}", 59): "void f()\n" + blocks(58, strings.Repeat(strings.Repeat("  ", 59)+"{\n"+strings.Repeat("  ", 59)+"}\n", 19000)),
	} {
		n := read(t, s)
		if got := show.Text(n); got != want {
			t.Errorf("%.60q is written as %.200q", s, got)
		}
		if got, at, e := parse.Parse(want); got.Kind != 0 || at != 0 || e != api.ErrSize {
			t.Errorf("the text of %.60q is read: %d, %d", s, at, e)
		}
	}
}

// blocks is the text of a block around so many others, one in the other, with inner in the innermost one.
func blocks(deep int, inner string) string {
	for i := deep; i >= 0; i-- {
		indent := strings.Repeat("  ", i)
		inner = indent + "{\n" + inner + indent + "}\n"
	}
	return inner
}
