package check

import (
	"slices"

	"crosstree/api"
)

// What names refer to is numbered from these numbers on: the number tells what it is.
const (
	firstGlobal   = 0
	firstVariable = 1000
	firstFunction = 2000
	firstBuiltin  = 3000
)

// most is how many globals there may be, how many functions, and how many variables in a function.
const most = 200

// thing is what a name refers to.
type thing struct {
	number int64
	t      api.T
}

// series gives numbers to things of one sort, as they come.
type series struct {
	next, end int64
}

func seriesFrom(first int64) series {
	return series{first, first + most}
}

// builtins returns the scope of the builtins.
func builtins() map[string]thing {
	void, number := api.T{Kind: api.TVoid}, api.T{Kind: api.TLong}
	place := api.T{Kind: api.TPtr, Of: []api.T{void}}
	return map[string]thing{
		"malloc": builtin(0, place, number),
		"free":   builtin(1, void, place),
		"memcpy": builtin(2, void, place, place, number),
		"memset": builtin(3, void, place, number, number),
		"input":  builtin(4, number),
	}
}

// builtin is the n-th builtin, with the type of its result and those of its parameters.
func builtin(n int64, types ...api.T) thing {
	return thing{firstBuiltin + n, api.T{Kind: api.TFunc, Of: types}}
}

// open begins a block, close ends it.
func (c *checker) open() {
	c.scopes = append(c.scopes, map[string]thing{})
}

func (c *checker) close() {
	c.scopes = c.scopes[:len(c.scopes)-1]
}

// declare lets the name of n refer to what n declares, from here on to the end of the innermost block, and returns its number.
func (c *checker) declare(n api.Node, s *series) int64 {
	scope := c.scopes[len(c.scopes)-1]
	_, taken := scope[n.Text]
	want(!taken)
	if s.next == s.end {
		fail(api.ErrSize)
	}
	scope[n.Text] = thing{s.next, n.T}
	s.next++
	return scope[n.Text].number
}

// find returns what a name refers to.
func (c *checker) find(name string) thing {
	for _, scope := range slices.Backward(c.scopes) {
		if x, ok := scope[name]; ok {
			return x
		}
	}
	panic(failure{api.ErrType})
}
