package check

import (
	"crosstree/api"
	"crosstree/ctype"
)

// declareItems declares the globals and functions, regardless of the bodies: these may use all of them.
func (c *checker) declareItems(items []api.Node) {
	globals, functions := seriesFrom(firstGlobal), seriesFrom(firstFunction)
	for i, n := range items {
		c.item = i
		switch n.Kind {
		case api.NodeRecord:
		case api.NodeGlobal:
			want(c.complete(n.T))
			c.declare(n, &globals)
		case api.NodeFunc:
			want(soundFunction(n) && (n.Text != "main" || soundMain(n.T)))
			c.declare(n, &functions)
		default:
			fail(api.ErrType)
		}
	}
	c.item = len(items)
	want(c.find("main").number >= firstFunction)
}

// soundFunction reports whether a function has a type that a function may have, and a node for each part of it.
func soundFunction(n api.Node) bool {
	if n.T.Kind != api.TFunc || !ctype.May(n.T) || len(n.Kids) != len(n.T.Of) {
		return false
	}
	params := len(n.T.Of) - 1
	for _, k := range n.Kids[:params] {
		if k.Kind != api.NodeDecl {
			return false
		}
	}
	// That the parameters are scalar, and so complete, is in May.
	result := n.T.Of[0]
	return n.Kids[params].Kind == api.NodeBlock && (result.Kind == api.TVoid || ctype.Scalar(result))
}

// soundMain reports whether main may have the type of a function.
func soundMain(t api.T) bool {
	return len(t.Of) == 1 && t.Of[0].Kind != api.TPtr
}

// annotatedItem annotates an item, whose names and types have been checked.
func (c *checker) annotatedItem(n api.Node) api.Node {
	switch n.Kind {
	case api.NodeRecord:
		var fields []api.Node
		for _, k := range n.Kids {
			fields = append(fields, c.annotated(k, k.T))
		}
		return c.annotated(n, n.T, fields...)
	case api.NodeFunc:
		return c.function(n)
	}
	return c.annotated(n, n.T)
}

// function annotates a function.
func (c *checker) function(n api.Node) api.Node {
	c.result, c.variables = n.T.Of[0], seriesFrom(firstVariable)
	c.open()
	defer c.close()
	var kids []api.Node
	for i, k := range n.Kids {
		if i < len(n.Kids)-1 {
			kids = append(kids, c.variable(k))
		} else {
			kids = append(kids, c.block(k)) // no scope of its own: the parameters belong to it
		}
	}
	return c.annotated(n, n.T, kids...)
}
