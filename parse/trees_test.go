package parse_test

import (
	"math/rand/v2"
	"slices"
	"strconv"
	"strings"
	"testing"

	"crosstree/api"
	"crosstree/parse"
)

// maker makes trees of the shape that the chapter describes, and sources of them, which differ in what leaves no trace.
type maker struct {
	r     *rand.Rand
	plain bool // without parentheses that nothing needs
	b     strings.Builder
}

func newMaker(r *rand.Rand) *maker {
	return &maker{r: r, plain: r.IntN(4) == 0}
}

// one chooses one of l.
func one[E any](m *maker, l ...E) E {
	return l[m.r.IntN(len(l))]
}

// some makes up to most of something.
func some[E any](m *maker, most int, make func() E) []E {
	var l []E
	for range m.r.IntN(most + 1) {
		l = append(l, make())
	}
	return l
}

func (m *maker) name() string {
	return one(m, "a", "b", "f", "_x1", "malloc", "structs", "Int", strings.Repeat("n", 24))
}

// baseType makes a type without arrays and functions.
func (m *maker) baseType() api.T {
	t := api.T{Kind: one(m, api.TVoid, api.TChar, api.TInt, api.TLong, api.TStruct, api.TUnion)}
	if t.Kind >= api.TStruct {
		t.Name = m.name()
	}
	for range m.r.IntN(3) {
		t = api.T{Kind: api.TPtr, Of: []api.T{t}}
	}
	return t
}

// typename makes a type without arrays.
func (m *maker) typename(deep int) api.T {
	t := m.baseType()
	if deep == 0 || m.r.IntN(3) > 0 {
		return t
	}
	l := append([]api.T{t}, some(m, 3, func() api.T { return m.typename(deep - 1) })...)
	return api.T{Kind: api.TPtr, Of: []api.T{{Kind: api.TFunc, Of: l}}}
}

func (m *maker) decl(kind int) api.Node {
	t := m.typename(2)
	for range m.r.IntN(3) {
		t = api.T{Kind: api.TArr, N: one(m, 1, 2, 97, 4096), Of: []api.T{t}}
	}
	return api.Node{Kind: kind, Text: m.name(), T: t}
}

func (m *maker) unit(deep int) api.Node {
	return api.Node{Kind: api.NodeUnit, Kids: some(m, 3, func() api.Node { return m.item(deep) })}
}

func (m *maker) item(deep int) api.Node {
	switch m.r.IntN(3) {
	case 0:
		return m.decl(api.NodeGlobal)
	case 1:
		return api.Node{Kind: api.NodeRecord, T: api.T{Kind: one(m, api.TStruct, api.TUnion), Name: m.name()}, Kids: some(m, 3, func() api.Node { return m.decl(api.NodeDecl) })}
	}
	n := api.Node{Kind: api.NodeFunc, Text: m.name(), T: api.T{Kind: api.TFunc, Of: []api.T{m.baseType()}}}
	n.Kids = some(m, 3, func() api.Node { return m.decl(api.NodeDecl) })
	for _, k := range n.Kids {
		n.T.Of = append(n.T.Of, k.T)
	}
	n.Kids = append(n.Kids, api.Node{Kind: api.NodeBlock, Kids: some(m, 4, func() api.Node { return m.stmt(deep) })})
	return n
}

func (m *maker) stmt(deep int) api.Node {
	kinds := []int{api.NodeExpr, api.NodeDecl, api.NodeReturn, api.NodeBlock, api.NodeBreak, api.NodeNext}
	if deep > 0 {
		kinds = append(kinds, api.NodeIf, api.NodeWhile, api.NodeBlock, api.NodeIf)
	}
	n := api.Node{Kind: one(m, kinds...)}
	switch n.Kind {
	case api.NodeExpr:
		n.Kids = []api.Node{m.expr(3)}
	case api.NodeDecl:
		n = m.decl(api.NodeDecl)
		n.Kids = some(m, 1, func() api.Node { return m.expr(3) })
	case api.NodeReturn:
		n.Kids = some(m, 1, func() api.Node { return m.expr(3) })
	case api.NodeBlock:
		n.Kids = some(m, min(deep, 1)*3, func() api.Node { return m.stmt(deep - 1) })
	case api.NodeWhile:
		n.Kids = []api.Node{m.expr(2), m.stmt(deep - 1)}
	case api.NodeIf:
		n.Kids = []api.Node{m.expr(2), m.stmt(deep - 1)}
		if !open(n.Kids[1]) && m.r.IntN(2) == 0 {
			n.Kids = append(n.Kids, m.stmt(deep-1))
		}
	}
	return n
}

// open reports whether an else after the statement would belong to an if in it.
func open(n api.Node) bool {
	switch n.Kind {
	case api.NodeIf:
		return len(n.Kids) == 2 || open(n.Kids[2])
	case api.NodeWhile:
		return open(n.Kids[1])
	}
	return false
}

// signs are the binary operators, row by row, from the loosest on.
var signs = [][]string{{"|"}, {"^"}, {"&"}, {"==", "!="}, {"<", "<=", ">", ">="}, {"<<", ">>"}, {"+", "-"}, {"*", "/", "%"}}

func (m *maker) expr(deep int) api.Node {
	if deep == 0 || m.r.IntN(6) == 0 {
		return one(m, api.Node{Kind: api.NodeName, Text: m.name()}, api.Node{Kind: api.NodeNumber, N: one[int64](m, 0, 1, 97, 1<<63-1)})
	}
	kid := func() api.Node { return m.expr(deep - 1) }
	n := api.Node{Kind: one(m, api.NodeUnary, api.NodeBinary, api.NodeBinary, api.NodeBinary, api.NodeAssign, api.NodeIndex, api.NodeDot, api.NodeArrow, api.NodeCall, api.NodeCast, api.NodeSizeof)}
	n.Kids = []api.Node{kid()}
	switch n.Kind {
	case api.NodeUnary:
		n.Text = one(m, "-", "!", "~", "*", "&")
	case api.NodeBinary:
		n.Text = one(m, one(m, signs...)...)
		n.Kids = append(n.Kids, kid())
	case api.NodeAssign, api.NodeIndex:
		n.Kids = append(n.Kids, kid())
	case api.NodeDot, api.NodeArrow:
		n.Text = m.name()
	case api.NodeCall:
		n.Kids = append(n.Kids, some(m, 3, kid)...)
	case api.NodeCast:
		n.T = m.typename(2)
	case api.NodeSizeof:
		n.T, n.Kids = m.typename(2), nil
	}
	return n
}

// source writes a tree as a source.
func (m *maker) source(n api.Node) string {
	m.b.Reset()
	for _, k := range n.Kids {
		m.putItem(k)
	}
	return m.b.String()
}

// put writes tokens, with white space or comments between.
func (m *maker) put(l ...string) {
	for _, x := range l {
		// A space stands first: a slash and a comment would be another comment.
		m.b.WriteString(x + " " + one(m, "", "", " ", "\n", "\t", "/**/", "//x\n", "/* ; */ "))
	}
}

// putList writes what commas separate, in parentheses.
func putList[E any](m *maker, l []E, one func(E)) {
	m.put("(")
	for i, x := range l {
		if i > 0 {
			m.put(",")
		}
		one(x)
	}
	m.put(")")
}

func (m *maker) putItem(n api.Node) {
	switch n.Kind {
	case api.NodeGlobal:
		m.putDecl(n)
		m.put(";")
	case api.NodeRecord:
		m.putBase(n.T)
		m.put("{")
		for _, k := range n.Kids {
			m.putDecl(k)
			m.put(";")
		}
		m.put("}", ";")
	case api.NodeFunc:
		m.putBase(n.T.Of[0])
		m.put(n.Text)
		last := len(n.Kids) - 1
		putList(m, n.Kids[:last], m.putDecl)
		m.putBlock(n.Kids[last])
	}
}

// putBase writes a type without arrays and functions.
func (m *maker) putBase(t api.T) {
	if t.Kind == api.TPtr {
		m.putBase(t.Of[0])
		m.put("*")
		return
	}
	m.put([]string{"", "void", "char", "int", "long", "", "", "struct", "union"}[t.Kind])
	if t.Name != "" {
		m.put(t.Name)
	}
}

// putDecl writes a declaration, or with no Text a typename.
func (m *maker) putDecl(n api.Node) {
	var middle []string
	if n.Text != "" {
		middle = []string{n.Text}
	}
	t := n.T
	for ; t.Kind == api.TArr; t = t.Of[0] {
		middle = append(middle, "[", one(m, strconv.Itoa(t.N), "0x"+strconv.FormatInt(int64(t.N), 16)), "]")
	}
	if t.Kind != api.TPtr || t.Of[0].Kind != api.TFunc {
		m.putBase(t)
		m.put(middle...)
		return
	}
	of := t.Of[0].Of
	m.putBase(of[0])
	m.put("(", "*")
	m.put(middle...)
	m.put(")")
	putList(m, of[1:], m.putType)
}

func (m *maker) putType(t api.T) {
	m.putDecl(api.Node{T: t})
}

func (m *maker) putBlock(n api.Node) {
	m.put("{")
	for _, k := range n.Kids {
		m.putStmt(k)
	}
	m.put("}")
}

func (m *maker) putStmt(n api.Node) {
	switch n.Kind {
	case api.NodeBlock:
		if len(n.Kids) == 0 && m.r.IntN(2) == 0 {
			m.put(";")
		} else {
			m.putBlock(n)
		}
		return
	case api.NodeIf, api.NodeWhile:
		m.put(map[int]string{api.NodeIf: "if", api.NodeWhile: "while"}[n.Kind], "(")
		m.putExpr(n.Kids[0], 0)
		m.put(")")
		m.putStmt(n.Kids[1])
		if len(n.Kids) == 3 {
			m.put("else")
			m.putStmt(n.Kids[2])
		}
		return
	case api.NodeReturn:
		m.put("return")
	case api.NodeBreak:
		m.put("break")
	case api.NodeNext:
		m.put("continue")
	case api.NodeDecl:
		m.putDecl(n)
		if len(n.Kids) == 1 {
			m.put("=")
		}
	}
	if len(n.Kids) == 1 {
		m.putExpr(n.Kids[0], 0)
	}
	m.put(";")
}

// binds is how close an expression binds: 0 is an assignment, 1 to 8 are the rows of binary operators, 9 a unary, 10 a post, 11 a term.
func binds(n api.Node) int {
	switch n.Kind {
	case api.NodeAssign:
		return 0
	case api.NodeBinary:
		return 1 + slices.IndexFunc(signs, func(row []string) bool { return slices.Contains(row, n.Text) })
	case api.NodeUnary, api.NodeCast, api.NodeSizeof:
		return 9
	case api.NodeName, api.NodeNumber:
		return 11
	}
	return 10
}

// putExpr writes an expression where one is to stand that binds at least so close.
func (m *maker) putExpr(n api.Node, close int) {
	pairs := 0
	if binds(n) < close {
		pairs = 1
	}
	if !m.plain && m.r.IntN(4) == 0 {
		pairs += m.r.IntN(3)
	}
	for range pairs {
		m.put("(")
	}
	m.putBare(n)
	for range pairs {
		m.put(")")
	}
}

func (m *maker) putBare(n api.Node) {
	level := binds(n)
	switch n.Kind {
	case api.NodeName:
		m.put(n.Text)
	case api.NodeNumber:
		if n.N == 97 {
			m.put("'a'")
		} else {
			m.put(one(m, strconv.FormatInt(n.N, 10), "0x"+strconv.FormatInt(n.N, 16)))
		}
	case api.NodeAssign:
		m.putExpr(n.Kids[0], 1)
		m.put("=")
		m.putExpr(n.Kids[1], 0)
	case api.NodeBinary:
		m.putExpr(n.Kids[0], level)
		m.put(n.Text)
		m.putExpr(n.Kids[1], level+1)
	case api.NodeUnary:
		m.put(n.Text)
		m.putExpr(n.Kids[0], 9)
	case api.NodeCast:
		putList(m, []api.T{n.T}, m.putType)
		m.putExpr(n.Kids[0], 9)
	case api.NodeSizeof:
		m.put("sizeof")
		putList(m, []api.T{n.T}, m.putType)
	default:
		m.putPost(n)
	}
}

func (m *maker) putPost(n api.Node) {
	m.putExpr(n.Kids[0], 10)
	switch n.Kind {
	case api.NodeIndex:
		m.put("[")
		m.putExpr(n.Kids[1], 0)
		m.put("]")
	case api.NodeDot:
		m.put(".", n.Text)
	case api.NodeArrow:
		m.put("->", n.Text)
	case api.NodeCall:
		putList(m, n.Kids[1:], func(k api.Node) { m.putExpr(k, 0) })
	}
}

// TestSourcesOfTrees checks that sources of a tree are read as the tree: whatever the white space, the comments, and parentheses around expressions.
func TestSourcesOfTrees(t *testing.T) {
	r := rand.New(rand.NewPCG(5, 6))
	kinds := map[int]int{}
	for range 5000 {
		n := newMaker(r).unit(3)
		want := write(n)
		for range 3 {
			s := newMaker(r).source(n)
			got, at, e := parse.Parse(s)
			if e == api.ErrSize && at == 0 && len(s) > 20000 {
				continue
			}
			if write(got) != want || at != 0 || e != api.OK {
				t.Fatalf("Parse(%q) = %s, %d, %d, want %s", s, write(got), at, e, want)
			}
			if d := depthOf(got); parse.Depth(got) != d {
				t.Fatalf("Depth of %s is %d, want %d", want, parse.Depth(got), d)
			}
			countKinds(got, kinds)
		}
	}
	for kind := api.NodeNumber; kind <= api.NodeUnit; kind++ {
		if kinds[kind] < 100 {
			t.Errorf("only %d nodes of the kind %s", kinds[kind], kindNames[kind])
		}
	}
}

// depthOf is the depth of a small tree.
func depthOf(n api.Node) int {
	most := 0
	for _, k := range n.Kids {
		most = max(most, depthOf(k))
	}
	return 1 + most
}

func countKinds(n api.Node, kinds map[int]int) {
	kinds[n.Kind]++
	for _, k := range n.Kids {
		countKinds(k, kinds)
	}
}
