package check

import (
	"crosstree/api"
	"crosstree/ctype"
)

// stmt annotates a statement.
func (c *checker) stmt(n api.Node) api.Node {
	switch n.Kind {
	case api.NodeBlock:
		c.open()
		defer c.close()
		return c.block(n)
	case api.NodeExpr:
		want(len(n.Kids) == 1)
		return c.annotated(n, api.T{}, c.expr(n.Kids[0]))
	case api.NodeDecl:
		return c.variable(n)
	case api.NodeIf:
		want(len(n.Kids) == 2 || len(n.Kids) == 3)
		return c.choice(n)
	case api.NodeWhile:
		want(len(n.Kids) == 2)
		c.loops++
		defer func() { c.loops-- }()
		return c.choice(n)
	case api.NodeReturn:
		return c.leave(n)
	case api.NodeBreak, api.NodeNext:
		want(c.loops > 0)
		return c.annotated(n, api.T{})
	}
	panic(failure{api.ErrType})
}

// block annotates a block, in the innermost scope.
func (c *checker) block(n api.Node) api.Node {
	var kids []api.Node
	for _, k := range n.Kids {
		kids = append(kids, c.stmt(k))
	}
	return c.annotated(n, api.T{}, kids...)
}

// choice annotates a statement that has a condition first, and then statements.
func (c *checker) choice(n api.Node) api.Node {
	condition := c.expr(n.Kids[0])
	want(ctype.Scalar(valueType(condition)))
	kids := []api.Node{condition}
	for _, k := range n.Kids[1:] {
		c.open() // each one counts as in a block of its own
		kids = append(kids, c.stmt(k))
		c.close()
	}
	return c.annotated(n, api.T{}, kids...)
}

// leave annotates a return.
func (c *checker) leave(n api.Node) api.Node {
	kids := c.exprs(n.Kids)
	if c.result.Kind == api.TVoid {
		want(len(kids) == 0)
	} else {
		want(len(kids) == 1 && fits(c.result, kids[0]))
	}
	return c.annotated(n, api.T{}, kids...)
}

// variable annotates and declares a variable of a function: its initial value is checked before, and so it doesn't know the variable.
func (c *checker) variable(n api.Node) api.Node {
	kids := c.exprs(n.Kids)
	want(c.complete(n.T) && len(kids) <= 1)
	for _, k := range kids {
		want(fits(n.T, k))
	}
	n.N = c.declare(n, &c.variables)
	return c.annotated(n, n.T, kids...)
}
