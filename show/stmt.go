package show

import (
	"strings"

	"crosstree/api"
)

// indentation stands before a line once for each level of nesting.
const indentation = "  "

// stmt writes a statement; what is none is an expression, which has no line of its own.
func (p *printer) stmt(n api.Node) {
	switch n.Kind {
	case api.NodeBlock:
		p.line("{")
		p.deeper(n.Kids...)
		p.line("}")
	case api.NodeIf:
		p.condition("if", n.Kids[0])
		p.deeper(n.Kids[1])
		if len(n.Kids) > 2 {
			p.line("else")
			p.deeper(n.Kids[2])
		}
	case api.NodeWhile:
		p.condition("while", n.Kids[0])
		p.deeper(n.Kids[1])
	case api.NodeReturn:
		p.indent()
		p.put("return")
		p.ending(" ", n.Kids)
	case api.NodeBreak:
		p.line("break;")
	case api.NodeNext:
		p.line("continue;")
	case api.NodeDecl:
		p.indent()
		p.decl(n.T, n.Text)
		p.ending(" = ", n.Kids)
	case api.NodeExpr:
		p.indent()
		p.ending("", n.Kids)
	default:
		p.expr(n, assignLevel)
	}
}

// deeper writes statements one level deeper.
func (p *printer) deeper(l ...api.Node) {
	p.level++
	for _, n := range l {
		p.stmt(n)
	}
	p.level--
}

// condition writes the line that a condition stands in.
func (p *printer) condition(word string, n api.Node) {
	p.indent()
	p.put(word, " (")
	p.expr(n, assignLevel)
	p.put(")\n")
}

// ending ends a line, with an expression and what stands before it, if there is one.
func (p *printer) ending(before string, l []api.Node) {
	if len(l) > 0 {
		p.put(before)
		p.expr(l[0], assignLevel)
	}
	p.put(";\n")
}

// line writes a whole line.
func (p *printer) line(s string) {
	p.indent()
	p.put(s, "\n")
}

func (p *printer) indent() {
	p.put(strings.Repeat(indentation, p.level))
}
