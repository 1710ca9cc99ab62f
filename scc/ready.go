package scc

import (
	"container/heap"
	"sort"
)

// ready is a heap of nodes, the least on top.
type ready struct{ sort.IntSlice }

func (r *ready) add(i int) {
	heap.Push(r, i)
}

// take removes the least node.
func (r *ready) take() int {
	return heap.Pop(r).(int)
}

// Push is for package heap alone.
func (r *ready) Push(i any) {
	r.IntSlice = append(r.IntSlice, i.(int))
}

// Pop is for package heap alone.
func (r *ready) Pop() any {
	last := r.Len() - 1
	i := r.IntSlice[last]
	r.IntSlice = r.IntSlice[:last]
	return i
}
