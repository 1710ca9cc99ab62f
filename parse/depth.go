package parse

import (
	"crosstree/api"
)

// maxLevels is how many levels a tree that Parse returns may have.
const maxLevels = 250

// kids is a list of nodes, known by where it lies.
type kids struct {
	first *api.Node
	size  int
}

// Depth returns how many levels the tree n has, 251 if it has more than 250.
func Depth(n api.Node) int {
	return min(1+levels(n.Kids, maxLevels-1, map[kids]int{}), maxLevels+1)
}

// levels is how many levels the trees of l have, or any number above most, if they have more than most.
// What is known of a list is kept, so that a tree whose nodes share their kids takes no longer than it is large.
func levels(l []api.Node, most int, known map[kids]int) int {
	if len(l) == 0 || most == 0 {
		return min(len(l), 1)
	}
	k := kids{&l[0], len(l)}
	if n, ok := known[k]; ok {
		return n
	}
	n := 0
	for i := range l {
		n = max(n, 1+levels(l[i].Kids, most-1, known))
		if n > most {
			return n
		}
	}
	known[k] = n
	return n
}
