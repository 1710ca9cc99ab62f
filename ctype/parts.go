package ctype

import (
	"slices"

	"crosstree/api"
)

// every reports whether check holds for first, and for all parts that check names, however deep.
// Each one is checked once, so that types that share their parts take no longer than they are large, and types that hold themselves come to an end.
func every[E comparable](first E, check func(E) ([]E, bool)) bool {
	seen := map[E]struct{}{first: {}}
	for work := []E{first}; len(work) > 0; {
		x := work[len(work)-1]
		work = work[:len(work)-1]
		parts, ok := check(x)
		if !ok {
			return false
		}
		for _, y := range parts {
			if _, ok := seen[y]; !ok {
				seen[y] = struct{}{}
				work = append(work, y)
			}
		}
	}
	return true
}

// mostUnshared is how many types a copy may have before its lists are shared: shared memory may be small where the type is great, or has no end.
const mostUnshared = 1 << 20

// list is a list of types, known by where it lies.
type list struct {
	first *api.T
	size  int
}

// fresh returns t in memory of its own.
func fresh(t api.T) api.T {
	made, late := 0, map[list][]api.T{}
	for work := []*api.T{&t}; len(work) > 0; {
		x := work[len(work)-1]
		work = work[:len(work)-1]
		if len(x.Of) == 0 {
			x.Of = nil // not even the room behind an empty list is the caller's
			continue
		}
		l := list{&x.Of[0], len(x.Of)}
		if copied, ok := late[l]; ok {
			x.Of = copied
			continue
		}
		x.Of = slices.Clone(x.Of)
		made += len(x.Of)
		if made > mostUnshared {
			late[l] = x.Of
		}
		for i := range x.Of {
			work = append(work, &x.Of[i])
		}
	}
	return t
}
