package check_test

import (
	"math/rand/v2"
	"slices"
	"strings"
	"testing"

	"crosstree/api"
	"crosstree/check"
	"crosstree/ctype"
	"crosstree/layout"
	"crosstree/parse"
	"crosstree/show"
)

// A second checker, written as the chapter's definitions: names are looked up among all declarations so far, the rows of the table are rows.

type refDecl struct {
	name   string
	number int64
	t      api.T
	block  int
}

type refChecker struct {
	recs   []api.Rec
	outer  []refDecl // globals, functions and builtins
	inner  []refDecl // the variables of the function so far
	around []int     // for each block of the function, the block around it; the first one is the function's
	result api.T
}

func refBuiltins() []refDecl {
	p := pointer(void)
	l := []refDecl{{"malloc", 0, function(p, long), 0}, {"free", 0, function(void, p), 0}, {"memcpy", 0, function(void, p, p, long), 0}, {"memset", 0, function(void, p, long, long), 0}, {"input", 0, function(long), 0}}
	for i := range l {
		l[i].number = int64(3000 + i)
	}
	return l
}

func refCheck(n api.Node) (api.Node, []api.Rec, int, api.Errno) {
	r := &refChecker{outer: refBuiltins()}
	var at []int
	for i, k := range n.Kids {
		if k.Kind == api.NodeRecord {
			at = append(at, i)
		}
	}
	recs, i, e := layout.Records(n)
	if e != api.OK {
		return api.Node{}, nil, at[i], e
	}
	r.recs = recs
	if i, e := r.items(n.Kids); e != api.OK {
		return api.Node{}, nil, i, e
	}
	unit := api.Node{Kind: api.NodeUnit}
	for i, k := range n.Kids {
		if k.Kind == api.NodeFunc {
			if k, e = r.function(k); e != api.OK {
				return api.Node{}, nil, i, e
			}
		}
		unit.Kids = append(unit.Kids, k)
	}
	return unit, recs, 0, api.OK
}

func (r *refChecker) complete(t api.T) bool {
	_, _, e := layout.Size(r.recs, t)
	return ctype.May(t) && e == api.OK
}

func named(l []refDecl, name string, block int) (refDecl, bool) {
	i := slices.IndexFunc(l, func(d refDecl) bool { return d.name == name && d.block == block })
	if i < 0 {
		return refDecl{}, false
	}
	return l[i], true
}

func (r *refChecker) items(l []api.Node) (int, api.Errno) {
	count := map[int]int64{}
	for i, n := range l {
		if n.Kind == api.NodeRecord {
			continue
		}
		_, twice := named(r.outer, n.Text, 0)
		if n.Kind == api.NodeGlobal {
			if twice || !r.complete(n.T) {
				return i, api.ErrType
			}
		} else {
			ok := ctype.May(n.T) && (n.T.Of[0].Kind == api.TVoid || ctype.Scalar(n.T.Of[0]))
			for _, p := range n.T.Of[1:] {
				ok = ok && ctype.Scalar(p) && r.complete(p)
			}
			if n.Text == "main" {
				ok = ok && len(n.T.Of) == 1 && n.T.Of[0].Kind != api.TPtr
			}
			if twice || !ok {
				return i, api.ErrType
			}
		}
		if count[n.Kind] == 200 {
			return i, api.ErrSize
		}
		first := map[int]int64{api.NodeGlobal: 0, api.NodeFunc: 2000}[n.Kind]
		r.outer = append(r.outer, refDecl{n.Text, first + count[n.Kind], n.T, 0})
		count[n.Kind]++
	}
	if d, ok := named(r.outer, "main", 0); !ok || d.number < 2000 {
		return len(l), api.ErrType
	}
	return 0, api.OK
}

func (r *refChecker) function(n api.Node) (api.Node, api.Errno) {
	r.inner, r.around, r.result = nil, []int{-1}, n.T.Of[0]
	var kids []api.Node
	for _, p := range n.Kids[:len(n.Kids)-1] {
		k, e := r.stmt(p, 0, false)
		if e != api.OK {
			return api.Node{}, e
		}
		kids = append(kids, k)
	}
	body := n.Kids[len(n.Kids)-1]
	l, e := r.stmts(body.Kids, 0, false)
	n.Kids = append(kids, api.Node{Kind: api.NodeBlock, Kids: l})
	return n, e
}

func (r *refChecker) within(block int) int {
	r.around = append(r.around, block)
	return len(r.around) - 1
}

func (r *refChecker) stmts(l []api.Node, block int, loop bool) ([]api.Node, api.Errno) {
	var made []api.Node
	for _, n := range l {
		k, e := r.stmt(n, block, loop)
		if e != api.OK {
			return nil, e
		}
		made = append(made, k)
	}
	return made, api.OK
}

// stmt checks a statement in a block, of which those that need it tell whether they are in a loop.
func (r *refChecker) stmt(n api.Node, block int, loop bool) (api.Node, api.Errno) {
	if n.Kind == api.NodeBlock {
		l, e := r.stmts(n.Kids, r.within(block), loop)
		n.Kids = l
		return n, e
	}
	var kids []api.Node
	for i, k := range n.Kids {
		if (n.Kind == api.NodeIf || n.Kind == api.NodeWhile) && i > 0 {
			s, e := r.stmt(k, r.within(block), loop || n.Kind == api.NodeWhile)
			if e != api.OK {
				return n, e
			}
			kids = append(kids, s)
			continue
		}
		x, ok := r.expr(k, block, false)
		if !ok {
			return n, api.ErrType
		}
		kids = append(kids, x)
	}
	n.Kids = kids
	ok := false
	switch n.Kind {
	case api.NodeExpr:
		ok = true
	case api.NodeIf, api.NodeWhile:
		ok = ctype.Scalar(ctype.Decay(kids[0].T))
	case api.NodeBreak, api.NodeNext:
		ok = loop
	case api.NodeReturn:
		ok = (len(kids) == 0) == (r.result.Kind == api.TVoid) && (len(kids) == 0 || refFits(r.result, kids[0]))
	case api.NodeDecl:
		_, twice := named(r.inner, n.Text, block)
		simple := ctype.Scalar(n.T) || n.T.Kind == api.TStruct || n.T.Kind == api.TUnion
		ok = !twice && r.complete(n.T) && (len(kids) == 0 || simple && refFits(n.T, kids[0]))
		n.N = int64(1000 + len(r.inner))
		if ok && n.N == 1200 {
			return n, api.ErrSize
		}
		r.inner = append(r.inner, refDecl{n.Text, n.N, n.T, block})
	}
	if !ok {
		return n, api.ErrType
	}
	return n, api.OK
}

func refZero(n api.Node) bool {
	return n.Kind == api.NodeNumber && n.N == 0
}

func refFits(to api.T, n api.Node) bool {
	return ctype.Fits(to, ctype.Decay(n.T), refZero(n))
}

func (r *refChecker) expr(n api.Node, block int, called bool) (api.Node, bool) {
	switch n.Kind {
	case api.NodeNumber:
		n.T = long
		return n, true
	case api.NodeSizeof:
		size, _, e := layout.Size(r.recs, n.T)
		return api.Node{Kind: api.NodeNumber, N: int64(size), T: long}, e == api.OK && ctype.May(n.T)
	case api.NodeName:
		d, ok := named(r.outer, n.Text, 0)
		for b := block; b >= 0; b = r.around[b] {
			if in, found := named(r.inner, n.Text, b); found {
				d, ok = in, true
				break
			}
		}
		n.T, n.N = d.t, d.number
		return n, ok && (called || n.N < 3000)
	}
	var kids []api.Node
	for i, k := range n.Kids {
		x, ok := r.expr(k, block, n.Kind == api.NodeCall && i == 0)
		if !ok {
			return n, false
		}
		kids = append(kids, x)
	}
	t, ok := r.row(n, kids)
	n.T, n.Kids = t, kids
	return n, ok
}

func refLvalue(n api.Node) bool {
	return n.Kind == api.NodeName && n.N < 2000 || n.Kind == api.NodeIndex || n.Kind == api.NodeArrow || n.Kind == api.NodeUnary && n.Text == "*" && n.T.Kind != api.TFunc || n.Kind == api.NodeDot && refLvalue(n.Kids[0])
}

// refRow is a way to satisfy a row of the table: for nodes of the kind, with one of the signs.
type refRow struct {
	kind  int
	signs string
	ok    bool
	t     api.T
}

// row returns the type of the first row that is satisfied.
func (r *refChecker) row(n api.Node, kids []api.Node) (api.T, bool) {
	none := api.T{}
	to := func(k api.Node) api.T {
		if v := ctype.Decay(k.T); v.Kind == api.TPtr {
			return v.Of[0]
		}
		return none
	}
	value := func(k api.Node) api.T { return ctype.Decay(k.T) }
	num := func(k api.Node) bool { return ctype.Number(value(k)) }
	ptr := func(k api.Node) bool { return value(k).Kind == api.TPtr }
	obj := func(k api.Node) bool { return ptr(k) && r.complete(to(k)) }
	a := kids[0]
	b := kids[len(kids)-1]
	same := ctype.Same(value(a), value(b))
	inRec := func(t api.T) (api.T, bool) {
		f, e := layout.Find(r.recs, t, n.Text)
		return f.T, e == api.OK
	}
	dot, hasDot := inRec(a.T)
	arrow, hasArrow := inRec(to(a))
	rows := []refRow{
		{api.NodeUnary, "- ~", num(a), long},
		{api.NodeUnary, "!", ctype.Scalar(value(a)), long},
		{api.NodeUnary, "*", obj(a) || to(a).Kind == api.TFunc, to(a)},
		{api.NodeUnary, "&", (refLvalue(a) || a.Kind == api.NodeName && a.N >= 2000) && ctype.May(pointer(a.T)), pointer(a.T)},
		{api.NodeBinary, "+ - * / % & | ^ << >> == != < <= > >=", num(a) && num(b), long},
		{api.NodeBinary, "+ -", obj(a) && num(b), value(a)},
		{api.NodeBinary, "+", num(a) && obj(b), value(b)},
		{api.NodeBinary, "-", obj(a) && obj(b) && same, long},
		{api.NodeBinary, "== !=", ptr(a) && ptr(b) && (same || to(a).Kind == api.TVoid || to(b).Kind == api.TVoid), long},
		{api.NodeBinary, "== !=", ptr(a) && refZero(b) || refZero(a) && ptr(b), long},
		{api.NodeBinary, "< <= > >=", ptr(a) && ptr(b) && same, long},
		{api.NodeAssign, "", refLvalue(a) && (ctype.Scalar(a.T) || a.T.Kind == api.TStruct || a.T.Kind == api.TUnion) && refFits(a.T, b), a.T},
		{api.NodeIndex, "", obj(a) && num(b), to(a)},
		{api.NodeDot, n.Text, hasDot, dot},
		{api.NodeArrow, n.Text, ptr(a) && hasArrow, arrow},
		{api.NodeCast, "", ctype.Scalar(n.T) && ctype.May(n.T) && ctype.Scalar(value(a)), n.T},
	}
	if f := to(a); f.Kind == api.TFunc {
		ok := len(f.Of) == len(kids)
		for i := 1; ok && i < len(kids); i++ {
			ok = refFits(f.Of[i], kids[i])
		}
		rows = append(rows, refRow{api.NodeCall, "", ok, f.Of[0]})
	}
	for _, row := range rows {
		if row.kind == n.Kind && (n.Text == "" || slices.Contains(strings.Fields(row.signs), n.Text)) && row.ok {
			return row.t, true
		}
	}
	return none, false
}

// agree checks a unit twice, and reports whether it is valid.
func agree(t *testing.T, n api.Node) bool {
	t.Helper()
	got, recs, at, e := check.Check(n)
	want, recs2, at2, e2 := refCheck(n)
	if e != e2 || at != at2 || !sameNode(got, want) || !slices.EqualFunc(recs, recs2, sameRec) {
		t.Fatalf("%s: error %d at %d, want %d at %d\n%v\n%v", shortened(show.Text(n)), e, at, e2, at2, got, want)
	}
	return e == api.OK
}

func node(kind int, text string, kids ...api.Node) api.Node {
	return api.Node{Kind: kind, Text: text, Kids: kids}
}

func nameNode(s string) api.Node {
	return node(api.NodeName, s)
}

// inMain is the unit of head with the statements l in its main.
func inMain(unit api.Node, l ...api.Node) api.Node {
	unit.Kids = slices.Clone(unit.Kids)
	f := unit.Kids[headItems]
	f.Kids = []api.Node{node(api.NodeBlock, "", l...)}
	unit.Kids[headItems] = f
	return unit
}

// atoms are the least expressions about what head declares.
func atoms() []api.Node {
	l := []api.Node{{Kind: api.NodeNumber}, {Kind: api.NodeNumber, N: 1}}
	for _, x := range []api.T{int4, recE, recNo} {
		l = append(l, api.Node{Kind: api.NodeSizeof, T: x})
	}
	for _, s := range strings.Fields("c i p r w v k o y x a m b pp q h j d f g t main malloc free input nobody") {
		l = append(l, nameNode(s))
	}
	return l
}

var unarySigns = []string{"-", "~", "!", "*", "&"}

func binarySigns() []string {
	return strings.Fields("+ - * / % & | ^ << >> == != < <= > >=")
}

func castTypes() []api.T {
	return []api.T{void, char, int4, long, pointer(int4), pointer(void), recS, pointer(recS), pointer(recNo), pointer(function(int4, int4, pointer(char))), pointer(function(recS)), pointer(function(int4, recS))}
}

// ofOne are the expressions of one other.
func ofOne(a api.Node) []api.Node {
	var l []api.Node
	for _, sign := range unarySigns {
		l = append(l, node(api.NodeUnary, sign, a))
	}
	for _, x := range castTypes() {
		l = append(l, api.Node{Kind: api.NodeCast, T: x, Kids: []api.Node{a}})
	}
	for _, s := range []string{"a", "n", "b", "m", "i", "z", "nobody"} {
		l = append(l, node(api.NodeDot, s, a), node(api.NodeArrow, s, a))
	}
	return append(l, node(api.NodeCall, "", a))
}

// ofTwo are the expressions of two others.
func ofTwo(a, b api.Node) []api.Node {
	l := []api.Node{node(api.NodeAssign, "", a, b), node(api.NodeIndex, "", a, b), node(api.NodeCall, "", a, b)}
	for _, sign := range binarySigns() {
		l = append(l, node(api.NodeBinary, sign, a, b))
	}
	return l
}

// smallExpressions are all expressions of one or two atoms.
func smallExpressions() []api.Node {
	var l []api.Node
	for _, a := range atoms() {
		l = append(l, ofOne(a)...)
		for _, b := range atoms() {
			l = append(l, ofTwo(a, b)...)
		}
	}
	return l
}

func TestAllSmallExpressions(t *testing.T) {
	unit := parsed(t, within(""))
	valid := 0
	for _, n := range append(atoms(), smallExpressions()...) {
		if agree(t, inMain(unit, node(api.NodeExpr, "", n))) {
			valid++
		}
	}
	if valid < 1000 {
		t.Errorf("only %d are valid", valid)
	}
}

// Greater and greater expressions, made of those that are valid.
func TestRandomExpressions(t *testing.T) {
	unit := parsed(t, within(""))
	r := rand.New(rand.NewPCG(7, 1))
	var valid []api.Node
	for _, n := range append(atoms(), smallExpressions()...) {
		if _, _, _, e := check.Check(inMain(unit, node(api.NodeExpr, "", n))); e == api.OK && parse.Depth(n) < 4 {
			valid = append(valid, n)
		}
	}
	pick := func() api.Node { return valid[r.IntN(len(valid))] }
	for i := range 20000 {
		var l []api.Node
		switch a := pick(); i % 3 {
		case 0:
			l = ofOne(a)
		case 1:
			l = ofTwo(a, pick())
		default:
			l = []api.Node{node(api.NodeCall, "", nameNode([]string{"f", "q", "memcpy", "memset"}[r.IntN(4)]), a, pick()), node(api.NodeCall, "", a, pick(), pick()), node(api.NodeCall, "", nameNode("memcpy"), pick(), pick(), a)}
		}
		n := l[r.IntN(len(l))]
		if agree(t, inMain(unit, node(api.NodeExpr, "", n))) && parse.Depth(n) < 7 {
			valid = append(valid, n)
		}
	}
}

// P7.3 for units with valid expressions of all kinds.
func TestAllSmallExpressionsCheckedAgain(t *testing.T) {
	unit := parsed(t, within(""))
	var l []api.Node
	for _, n := range append(atoms(), smallExpressions()...) {
		s := node(api.NodeExpr, "", n)
		if _, _, _, e := check.Check(inMain(unit, s)); e == api.OK {
			l = append(l, s)
		}
		if len(l) == 1000 {
			wantAgain(t, inMain(unit, l...))
			l = nil
		}
	}
	wantAgain(t, inMain(unit, l...))
}

// bodies makes random functions about few names, so that they meet.
type bodies struct {
	r     *rand.Rand
	tidy  int // one of so many names, types and places is chosen without thought
	loops int
}

func (b *bodies) careless() bool {
	return b.r.IntN(b.tidy) == 0
}

func (b *bodies) name() string {
	if b.careless() {
		return []string{"f", "main", "malloc", "input", "nobody", "p"}[b.r.IntN(6)]
	}
	return []string{"x", "y", "z"}[b.r.IntN(3)]
}

func (b *bodies) typ() api.T {
	if b.careless() {
		return []api.T{void, recNo, recS, pointer(int4), array(2, int4), function(int4), array(4096, int4), pointer(recNo)}[b.r.IntN(8)]
	}
	return []api.T{char, int4, long}[b.r.IntN(3)]
}

func (b *bodies) expr() api.Node {
	switch b.r.IntN(8) {
	case 0:
		return api.Node{Kind: api.NodeNumber, N: b.r.Int64N(3)}
	case 1:
		return node(api.NodeAssign, "", nameNode(b.name()), nameNode(b.name()))
	case 2:
		return node(api.NodeBinary, "+", nameNode(b.name()), nameNode(b.name()))
	case 3:
		return node(api.NodeCall, "", nameNode("f"), nameNode(b.name()))
	case 4:
		return api.Node{Kind: api.NodeSizeof, T: b.typ()}
	}
	return nameNode(b.name())
}

func (b *bodies) stmt(deep int) api.Node {
	kind := b.r.IntN(12)
	if deep == 0 && kind < 5 {
		kind = 5 + b.r.IntN(7)
	}
	switch kind {
	case 0, 1:
		return node(api.NodeBlock, "", b.stmts(deep-1)...)
	case 2:
		return node(api.NodeIf, "", b.expr(), b.stmt(deep-1))
	case 3:
		return node(api.NodeIf, "", b.expr(), b.stmt(deep-1), b.stmt(deep-1))
	case 4:
		b.loops++
		defer func() { b.loops-- }()
		return node(api.NodeWhile, "", b.expr(), b.stmt(deep-1))
	case 5:
		if b.loops > 0 || b.careless() {
			return node([]int{api.NodeBreak, api.NodeNext}[b.r.IntN(2)], "")
		}
	case 6:
		if b.careless() {
			return node(api.NodeReturn, "")
		}
		return node(api.NodeReturn, "", b.expr())
	case 7:
		return api.Node{Kind: api.NodeDecl, Text: b.name(), T: b.typ(), Kids: []api.Node{b.expr()}}
	case 8, 9:
		return api.Node{Kind: api.NodeDecl, Text: b.name(), T: b.typ()}
	}
	return node(api.NodeExpr, "", b.expr())
}

func (b *bodies) stmts(deep int) []api.Node {
	var l []api.Node
	for range b.r.IntN(4) {
		l = append(l, b.stmt(deep))
	}
	return l
}

// function makes a function with so many parameters.
func (b *bodies) function(name string, params int) api.Node {
	n := api.Node{Kind: api.NodeFunc, Text: name, T: function(int4)}
	for range params {
		p := api.Node{Kind: api.NodeDecl, Text: b.name(), T: b.typ()}
		n.Kids = append(n.Kids, p)
		n.T.Of = append(n.T.Of, p.T)
	}
	if b.careless() {
		n.T.Of[0] = b.typ()
	}
	n.Kids = append(n.Kids, node(api.NodeBlock, "", b.stmts(4)...))
	return n
}

// unit makes a unit of a function f, a main, globals and records, in any order.
func (b *bodies) unit() api.Node {
	l := []api.Node{b.function("f", 1), b.function("main", 0), {Kind: api.NodeGlobal, Text: "x", T: int4}, {Kind: api.NodeGlobal, Text: "y", T: pointer(int4)}, {Kind: api.NodeRecord, T: recS, Kids: []api.Node{{Kind: api.NodeDecl, Text: "x", T: b.typ()}}}}
	for b.careless() {
		l = append(l, []api.Node{b.function(b.name(), b.r.IntN(3)), {Kind: api.NodeGlobal, Text: b.name(), T: b.typ()}, {Kind: api.NodeRecord, T: []api.T{recS, recU, recNo}[b.r.IntN(3)]}}[b.r.IntN(3)])
	}
	b.r.Shuffle(len(l), func(i, j int) { l[i], l[j] = l[j], l[i] })
	if b.careless() {
		l = l[1:]
	}
	return node(api.NodeUnit, "", l...)
}

func TestRandomUnits(t *testing.T) {
	valid := 0
	for i := range 40000 {
		b := &bodies{r: rand.New(rand.NewPCG(uint64(i), 7)), tidy: 4 + i%80}
		n := b.unit()
		if agree(t, n) {
			valid++
		}
	}
	if valid < 2000 {
		t.Errorf("only %d are valid", valid)
	}
}

// Units with about as many declarations as there may be.
func TestRandomUnitsAtTheLimits(t *testing.T) {
	for i := range 300 {
		b := &bodies{r: rand.New(rand.NewPCG(uint64(i), 77)), tidy: 400}
		var l []api.Node
		for range 199 + b.r.IntN(3) {
			l = append(l, api.Node{Kind: api.NodeDecl, Text: "v", T: int4})
			if b.r.IntN(3) == 0 {
				l[len(l)-1].Kids = []api.Node{b.expr()}
			}
		}
		for j := range l {
			for range b.r.IntN(3) {
				l[j] = node(api.NodeWhile, "", api.Node{Kind: api.NodeNumber}, node(api.NodeBlock, "", l[j]))
			}
			l[j] = node(api.NodeBlock, "", l[j])
		}
		agree(t, node(api.NodeUnit, "", b.function("f", 1), api.Node{Kind: api.NodeGlobal, Text: "x", T: int4}, api.Node{Kind: api.NodeGlobal, Text: "y", T: int4}, api.Node{Kind: api.NodeGlobal, Text: "z", T: int4}, api.Node{Kind: api.NodeFunc, Text: "main", T: function(void), Kids: []api.Node{node(api.NodeBlock, "", l...)}}))
	}
}
