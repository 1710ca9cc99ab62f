package nset

import (
	"sort"
)

// greatest is the greatest number that a set may contain; the least is 0.
const greatest = 1000000

func inRange(n int) bool {
	return n >= 0 && n <= greatest
}

// span is the numbers from from to to, at least one.
type span struct {
	from, to int
}

// find returns the index of the first span of l that doesn't end below n, or len(l) if there is none.
func find(l []span, n int) int {
	return sort.Search(len(l), func(i int) bool { return l[i].to >= n })
}

// covers tells whether l contains all of x, which is within one span then, since spans that touch are one.
func covers(l []span, x span) bool {
	i := find(l, x.from)
	return i < len(l) && l[i].from <= x.from && x.to <= l[i].to
}

// push appends x, which doesn't begin below the last span of l, and joins the two if they overlap or touch.
func push(l []span, x span) []span {
	if len(l) == 0 || l[len(l)-1].to+1 < x.from {
		return append(l, x)
	}
	last := &l[len(l)-1]
	last.to = max(last.to, x.to)
	return l
}

// merge returns the numbers of both lists, in new memory.
func merge(a, b []span) []span {
	l := make([]span, 0, len(a)+len(b))
	for len(a)+len(b) > 0 {
		if len(a) == 0 || len(b) > 0 && b[0].from < a[0].from {
			a, b = b, a
		}
		l = push(l, a[0])
		a = a[1:]
	}
	return l
}

// without returns the numbers of a that are not in b, in new memory.
func without(a, b []span) []span {
	var l []span
	for _, x := range a {
		b = b[find(b, x.from):]
		for _, y := range b {
			if y.from > x.to {
				break
			}
			if x.from < y.from {
				l = append(l, span{x.from, y.from - 1})
			}
			x.from = y.to + 1
		}
		if x.from <= x.to {
			l = append(l, x)
		}
	}
	return l
}
