package check

import (
	"crosstree/api"
	"crosstree/ctype"
)

// What follows is asked about annotated expressions.

func long() api.T {
	return api.T{Kind: api.TLong}
}

// valueType returns the type of an expression's value.
func valueType(n api.Node) api.T {
	return ctype.Decay(n.T)
}

func number(n api.Node) bool {
	return ctype.Number(n.T) // what decays is a pointer then
}

func pointer(n api.Node) bool {
	return valueType(n).Kind == api.TPtr
}

// toObjects reports whether an expression is a pointer to a complete type: one can step from object to object.
func (c *checker) toObjects(n api.Node) bool {
	return pointer(n) && c.complete(valueType(n).Of[0])
}

func same(a, b api.Node) bool {
	return ctype.Same(valueType(a), valueType(b))
}

// fits reports whether the value of an expression may be assigned to the type to.
func fits(to api.T, n api.Node) bool {
	zero := n.Kind == api.NodeNumber && n.N == 0 // a NodeSizeof is a number by now
	return ctype.Fits(to, valueType(n), zero)
}

// lvalue reports whether an expression tells a place, and not only what it holds.
func lvalue(n api.Node) bool {
	switch n.Kind {
	case api.NodeName:
		return n.N < firstFunction
	case api.NodeIndex, api.NodeArrow:
		return true
	case api.NodeUnary:
		return n.Text == "*" && n.T.Kind != api.TFunc
	case api.NodeDot:
		return lvalue(n.Kids[0])
	}
	return false
}

// functionName reports whether an expression is the name of a function.
func functionName(n api.Node) bool {
	return n.Kind == api.NodeName && n.N >= firstFunction
}
