package show

import (
	"crosstree/api"
)

// Trees that the parser doesn't return needn't have a text, but they must not stop the program: what isn't sound has the empty text.

// maxLevels is how many levels a tree may have: the parser returns none with more.
const maxLevels = 250

// maxParts is how many types a tree may have, with the empty ones, of which other nodes have one each.
// The parser returns far fewer: a byte of the source makes at most one node and one type, and a parameter's type stands in its function's too.
// Memory that holds itself has no end of them.
const maxParts = 8 * api.MaxBytes

// survey counts the types that may still come.
type survey struct {
	left int
}

// soundTree reports whether a tree is within the limits, and has all that its text is made of.
func soundTree(n api.Node) bool {
	s := survey{maxParts}
	return s.node(n, maxLevels)
}

// soundType does the same for a type alone.
func soundType(t api.T) bool {
	s := survey{maxParts}
	return s.typ(t)
}

// node reports whether the tree n is sound, with so many levels at most.
func (s *survey) node(n api.Node, levels int) bool {
	if levels == 0 || !s.typ(n.T) || len(n.Kids) < leastKids(n.Kind) || n.Kind == api.NodeFunc && len(n.T.Of) == 0 {
		return false
	}
	for _, k := range n.Kids {
		if !s.node(k, levels-1) {
			return false
		}
	}
	return true
}

func (s *survey) typ(t api.T) bool {
	s.left--
	if s.left < 0 || len(t.Of) < leastParts(t.Kind) {
		return false
	}
	for _, u := range t.Of {
		if !s.typ(u) {
			return false
		}
	}
	return true
}

// leastKids is how many kids a node of the kind has at least.
func leastKids(kind int) int {
	switch kind {
	case api.NodeUnary, api.NodeDot, api.NodeArrow, api.NodeCall, api.NodeCast, api.NodeExpr, api.NodeFunc:
		return 1
	case api.NodeBinary, api.NodeAssign, api.NodeIndex, api.NodeIf, api.NodeWhile:
		return 2
	}
	return 0
}

// leastParts is how many types a type of the kind is made of at least.
func leastParts(kind int) int {
	switch kind {
	case api.TPtr, api.TArr, api.TFunc:
		return 1
	}
	return 0
}
