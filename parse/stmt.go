package parse

import (
	"crosstree/api"
)

// stmt parses a statement.
func (p *parser) stmt() api.Node {
	p.enter()
	defer p.leave()
	switch t := p.token(); t.Text {
	case "{":
		return p.block()
	case ";":
		p.next++
		return api.Node{Kind: api.NodeBlock}
	case "if":
		return p.choice()
	case "while":
		p.next++
		return node(api.NodeWhile, p.condition(), p.stmt())
	case "return":
		return p.result()
	case "break":
		return p.leap(api.NodeBreak)
	case "continue":
		return p.leap(api.NodeNext)
	default:
		if _, ok := p.types[t.Text]; ok {
			return p.local()
		}
	}
	n := node(api.NodeExpr, p.expr())
	p.want(";")
	return n
}

// block parses statements in braces.
func (p *parser) block() api.Node {
	n := api.Node{Kind: api.NodeBlock}
	p.want("{")
	for !p.skip("}") {
		n.Kids = append(n.Kids, p.stmt())
	}
	return n
}

// choice parses an if; an else that follows belongs to it.
func (p *parser) choice() api.Node {
	p.want("if")
	n := node(api.NodeIf, p.condition(), p.stmt())
	if p.skip("else") {
		n.Kids = append(n.Kids, p.stmt())
	}
	return n
}

// condition parses an expression in parentheses.
func (p *parser) condition() api.Node {
	p.want("(")
	n := p.expr()
	p.want(")")
	return n
}

// result parses a return.
func (p *parser) result() api.Node {
	n := api.Node{Kind: api.NodeReturn}
	p.want("return")
	if p.skip(";") {
		return n
	}
	n.Kids = []api.Node{p.expr()}
	p.want(";")
	return n
}

// leap parses a keyword that is a statement of its own.
func (p *parser) leap(kind int) api.Node {
	p.next++
	p.want(";")
	return node(kind)
}

// local parses a variable, with what it begins with, if there is that.
func (p *parser) local() api.Node {
	n := p.decl()
	if p.skip("=") {
		n.Kids = []api.Node{p.expr()}
	}
	p.want(";")
	return n
}

// node makes a node of its kids alone.
func node(kind int, l ...api.Node) api.Node {
	return api.Node{Kind: kind, Kids: l}
}
