package show

import (
	"strconv"

	"crosstree/api"
)

// The precedences that aren't those of a binary operator.
const (
	assignLevel = 0
	unaryLevel  = 9
	postLevel   = 10
	termLevel   = 11
)

// precedencesOfKinds has every kind of expressions but NodeBinary.
func precedencesOfKinds() map[int]int {
	return map[int]int{
		api.NodeAssign: assignLevel,
		api.NodeUnary:  unaryLevel, api.NodeCast: unaryLevel, api.NodeSizeof: unaryLevel,
		api.NodeIndex: postLevel, api.NodeDot: postLevel, api.NodeArrow: postLevel, api.NodeCall: postLevel,
		api.NodeName: termLevel, api.NodeNumber: termLevel,
	}
}

func precedencesOfSigns() map[string]int {
	return map[string]int{
		"|": 1, "^": 2, "&": 3,
		"==": 4, "!=": 4,
		"<": 5, "<=": 5, ">": 5, ">=": 5,
		"<<": 6, ">>": 6,
		"+": 7, "-": 7,
		"*": 8, "/": 8, "%": 8,
	}
}

func (p *printer) precedence(n api.Node) int {
	if n.Kind == api.NodeBinary {
		return p.signs[n.Text]
	}
	return p.kinds[n.Kind]
}

// expr writes an expression, in parentheses if its precedence is below least.
func (p *printer) expr(n api.Node, least int) {
	if p.precedence(n) < least {
		p.put("(")
		p.bare(n)
		p.put(")")
		return
	}
	p.bare(n)
}

// bare writes an expression without parentheses around it.
func (p *printer) bare(n api.Node) {
	switch n.Kind {
	case api.NodeNumber:
		p.put(strconv.FormatInt(n.N, 10))
	case api.NodeName:
		p.put(n.Text)
	case api.NodeAssign:
		p.operands(n, assignLevel+1, "=", assignLevel)
	case api.NodeBinary:
		level := p.precedence(n)
		p.operands(n, level, n.Text, level+1)
	case api.NodeUnary:
		p.put(n.Text)
		p.expr(n.Kids[0], unaryLevel)
	case api.NodeCast:
		p.enclosedType(n.T)
		p.expr(n.Kids[0], unaryLevel)
	case api.NodeSizeof:
		p.put("sizeof")
		p.enclosedType(n.T)
	case api.NodeIndex, api.NodeDot, api.NodeArrow, api.NodeCall:
		p.post(n)
	}
}

// operands writes two kids with the sign between them, each one at a precedence of its own.
func (p *printer) operands(n api.Node, left int, sign string, right int) {
	p.expr(n.Kids[0], left)
	p.put(" ", sign, " ")
	p.expr(n.Kids[1], right)
}

// enclosedType writes a type in parentheses.
func (p *printer) enclosedType(t api.T) {
	p.put("(")
	p.ask(t)
	p.put(")")
}

// post writes an expression that begins with its first kid.
func (p *printer) post(n api.Node) {
	p.expr(n.Kids[0], postLevel)
	switch n.Kind {
	case api.NodeIndex:
		p.put("[")
		p.expr(n.Kids[1], assignLevel)
		p.put("]")
	case api.NodeDot:
		p.put(".", n.Text)
	case api.NodeArrow:
		p.put("->", n.Text)
	case api.NodeCall:
		list(p, n.Kids[1:], func(k api.Node) { p.expr(k, assignLevel) })
	}
}
