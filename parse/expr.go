package parse

import (
	"crosstree/api"
)

// expr parses an expression.
func (p *parser) expr() api.Node {
	p.enter()
	defer p.leave()
	n := p.binary(1)
	if p.skip("=") {
		return node(api.NodeAssign, n, p.expr())
	}
	return n
}

// binary parses operands, and the operators between them that stand in the row least of the grammar or one that binds closer.
func (p *parser) binary(least int) api.Node {
	n := p.unary()
	for {
		sign := p.token().Text
		row := rowOf(sign)
		if row < least {
			return n
		}
		p.next++
		n = api.Node{Kind: api.NodeBinary, Text: sign, Kids: []api.Node{n, p.binary(row + 1)}}
	}
}

// rowOf is the row of a binary operator, from 1 (bitor) to 8 (prod), and 0 for everything else.
func rowOf(sign string) int {
	switch sign {
	case "|":
		return 1
	case "^":
		return 2
	case "&":
		return 3
	case "==", "!=":
		return 4
	case "<", "<=", ">", ">=":
		return 5
	case "<<", ">>":
		return 6
	case "+", "-":
		return 7
	case "*", "/", "%":
		return 8
	}
	return 0
}

// unary parses an operand with what stands before it.
func (p *parser) unary() api.Node {
	p.enter()
	defer p.leave()
	switch t := p.token(); t.Text {
	case "-", "!", "~", "*", "&":
		p.next++
		return api.Node{Kind: api.NodeUnary, Text: t.Text, Kids: []api.Node{p.unary()}}
	case "sizeof":
		p.next++
		return api.Node{Kind: api.NodeSizeof, T: p.enclosedType()}
	case "(":
		if u := p.second(); u.Kind == api.TokWord && u.Text != "sizeof" {
			t := p.enclosedType()
			return api.Node{Kind: api.NodeCast, T: t, Kids: []api.Node{p.unary()}}
		}
	}
	return p.post()
}

// enclosedType parses a typename in parentheses.
func (p *parser) enclosedType() api.T {
	p.want("(")
	t := p.typename()
	p.want(")")
	return t
}

// post parses a term with what stands behind it.
func (p *parser) post() api.Node {
	n := p.term()
	for {
		switch p.token().Text {
		case "[":
			p.next++
			n = node(api.NodeIndex, n, p.expr())
			p.want("]")
		case ".":
			n = p.field(api.NodeDot, n)
		case "->":
			n = p.field(api.NodeArrow, n)
		case "(":
			n = node(api.NodeCall, append([]api.Node{n}, list(p, p.expr)...)...)
		default:
			return n
		}
	}
}

// field parses the name of a field of n, after the sign before it.
func (p *parser) field(kind int, n api.Node) api.Node {
	p.next++
	return api.Node{Kind: kind, Text: p.name(), Kids: []api.Node{n}}
}

// term parses a name, a number, or an expression in parentheses, which leave no trace.
func (p *parser) term() api.Node {
	switch t := p.token(); t.Kind {
	case api.TokName:
		p.next++
		return api.Node{Kind: api.NodeName, Text: t.Text}
	case api.TokNumber:
		p.next++
		return api.Node{Kind: api.NodeNumber, N: t.N}
	}
	p.want("(")
	n := p.expr()
	p.want(")")
	return n
}
