package check

import (
	"crosstree/api"
)

// Units that the parser doesn't return needn't be checked as the chapter says, but they must not stop the program.

// maxLevels is how many levels a unit may have: the parser returns none with more.
const maxLevels = 250

// maxParts is how many nodes and types a unit may have, without the types that only annotate.
// The parser returns fewer: a byte of the source makes at most one node, or one type, which stands twice for a parameter.
// Memory that holds itself has no end of them.
const maxParts = 4 * api.MaxBytes

// maxTypes is how many types an annotated unit may have. With more, of 56 bytes each, it is beyond what anything is promised for.
const maxTypes = (1<<31 - 1) / 56

// survey counts the nodes and types that may still come.
type survey struct {
	left int
}

// sound reports whether a unit is within the limits.
func sound(n api.Node) bool {
	s := survey{maxParts}
	return s.node(n, maxLevels)
}

// node reports whether the tree n is within the limits, with so many levels at most.
func (s *survey) node(n api.Node, levels int) bool {
	s.left--
	if levels == 0 || s.left < 0 || written(n.Kind) && !s.typ(n.T) {
		return false
	}
	for _, k := range n.Kids {
		if !s.node(k, levels-1) {
			return false
		}
	}
	return true
}

func (s *survey) typ(t api.T) bool {
	s.left--
	if s.left < 0 {
		return false
	}
	for _, u := range t.Of {
		if !s.typ(u) {
			return false
		}
	}
	return true
}

// written reports whether nodes of the kind have a type that stands in the source. The other ones may have one that annotates.
func written(kind int) bool {
	switch kind {
	case api.NodeCast, api.NodeSizeof, api.NodeDecl, api.NodeRecord, api.NodeGlobal, api.NodeFunc:
		return true
	}
	return false
}

// fresh returns t in memory of its own.
func (c *checker) fresh(t api.T) api.T {
	c.types++
	if c.types > maxTypes {
		fail(api.ErrSize)
	}
	if len(t.Of) == 0 {
		t.Of = nil // not even the room behind an empty list is the caller's
		return t
	}
	l := make([]api.T, len(t.Of))
	for i, u := range t.Of {
		l[i] = c.fresh(u)
	}
	t.Of = l
	return t
}
