package ctype

import (
	"crosstree/api"
)

// kind is what the types of a kind have: how many bytes, if they are scalar; whether they are numbers;
// and the greatest length of Name, the greatest N and the greatest length of Of.
type kind struct {
	width             int
	number            bool
	name, size, parts int
}

// kinds has the kinds of types at their numbers.
var kinds = [...]kind{
	api.TVoid:   {},
	api.TChar:   {width: 1, number: true},
	api.TInt:    {width: 4, number: true},
	api.TLong:   {width: 8, number: true},
	api.TPtr:    {width: api.Pointer, parts: 1},
	api.TArr:    {size: api.MaxSize, parts: 1},
	api.TStruct: {name: api.MaxName},
	api.TUnion:  {name: api.MaxName},
	api.TFunc:   {parts: 1 + api.MaxParams},
}

// kindOf returns the row of the kind of t, and false if there is no such kind.
func kindOf(t api.T) (kind, bool) {
	if t.Kind < api.TVoid || t.Kind >= len(kinds) {
		return kind{}, false
	}
	return kinds[t.Kind], true
}

// filled reports whether n is one of what a kind may have up to most: what a kind has at all is never empty.
func filled(n, most int) bool {
	return min(most, 1) <= n && n <= most
}
