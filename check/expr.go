package check

import (
	"crosstree/api"
	"crosstree/ctype"
	"crosstree/layout"
)

// exprs annotates expressions.
func (c *checker) exprs(l []api.Node) []api.Node {
	var made []api.Node
	for _, n := range l {
		made = append(made, c.expr(n))
	}
	return made
}

// expr annotates an expression.
func (c *checker) expr(n api.Node) api.Node {
	switch n.Kind {
	case api.NodeNumber:
		return c.annotated(n, long())
	case api.NodeSizeof:
		want(c.complete(n.T))
		size, _, _ := layout.Size(c.recs, n.T)
		return c.annotated(api.Node{Kind: api.NodeNumber, N: int64(size)}, long())
	case api.NodeName:
		n = c.name(n)
		want(n.N < firstBuiltin)
		return n
	case api.NodeCall:
		return c.call(n)
	}
	kids := c.exprs(n.Kids)
	return c.annotated(n, c.typeOf(n, kids), kids...)
}

// name annotates a name, also that of a builtin.
func (c *checker) name(n api.Node) api.Node {
	x := c.find(n.Text)
	n.N = x.number
	return c.annotated(n, x.t)
}

// call annotates a call.
func (c *checker) call(n api.Node) api.Node {
	want(len(n.Kids) > 0)
	var called api.Node
	if n.Kids[0].Kind == api.NodeName {
		called = c.name(n.Kids[0])
	} else {
		called = c.expr(n.Kids[0])
	}
	args := c.exprs(n.Kids[1:])
	p := valueType(called)
	want(p.Kind == api.TPtr && p.Of[0].Kind == api.TFunc)
	result, params := p.Of[0].Of[0], p.Of[0].Of[1:]
	want(len(args) == len(params))
	for i, a := range args {
		want(fits(params[i], a))
	}
	return c.annotated(n, result, append([]api.Node{called}, args...)...)
}

// typeOf returns the type of an expression with these annotated kids.
func (c *checker) typeOf(n api.Node, kids []api.Node) api.T {
	want(len(kids) == operands(n.Kind))
	switch n.Kind {
	case api.NodeUnary:
		return c.unary(n.Text, kids[0])
	case api.NodeBinary:
		return c.binary(n.Text, kids[0], kids[1])
	case api.NodeAssign:
		want(lvalue(kids[0]) && fits(kids[0].T, kids[1])) // only to scalar types and records does anything fit
		return kids[0].T
	case api.NodeIndex:
		want(c.toObjects(kids[0]) && number(kids[1]))
		return valueType(kids[0]).Of[0]
	case api.NodeDot:
		return c.field(kids[0].T, n.Text)
	case api.NodeArrow:
		want(pointer(kids[0]))
		return c.field(valueType(kids[0]).Of[0], n.Text)
	case api.NodeCast:
		want(ctype.Scalar(n.T) && ctype.May(n.T) && ctype.Scalar(valueType(kids[0])))
		return n.T
	}
	panic(failure{api.ErrType})
}

// operands is how many kids an expression of the kind has.
func operands(kind int) int {
	switch kind {
	case api.NodeBinary, api.NodeAssign, api.NodeIndex:
		return 2
	}
	return 1
}

// field returns the type of a field of the record t.
func (c *checker) field(t api.T, name string) api.T {
	f, e := layout.Find(c.recs, t, name)
	want(e == api.OK)
	return f.T
}

// unary returns the type of an operator's result.
func (c *checker) unary(sign string, n api.Node) api.T {
	switch sign {
	case "-", "~":
		want(number(n))
		return long()
	case "!":
		want(ctype.Scalar(valueType(n)))
		return long()
	case "*":
		t := valueType(n)
		want(c.toObjects(n) || t.Kind == api.TPtr && t.Of[0].Kind == api.TFunc)
		return t.Of[0]
	case "&":
		p := api.T{Kind: api.TPtr, Of: []api.T{n.T}}
		want((lvalue(n) || functionName(n)) && ctype.May(p))
		return p
	}
	panic(failure{api.ErrType})
}

// binary returns the type of an operator's result.
func (c *checker) binary(sign string, a, b api.Node) api.T {
	ok := number(a) && number(b)
	switch sign {
	case "*", "/", "%", "&", "|", "^", "<<", ">>":
	case "+":
		if number(a) && c.toObjects(b) {
			return valueType(b)
		}
		if c.toObjects(a) && number(b) {
			return valueType(a)
		}
	case "-":
		if c.toObjects(a) && number(b) {
			return valueType(a)
		}
		ok = ok || c.toObjects(a) && c.toObjects(b) && same(a, b)
	case "==", "!=":
		ok = ok || pointer(a) && fits(valueType(a), b) || pointer(b) && fits(valueType(b), a)
	case "<", "<=", ">", ">=":
		ok = ok || pointer(a) && pointer(b) && same(a, b)
	default:
		fail(api.ErrType)
	}
	want(ok)
	return long()
}
