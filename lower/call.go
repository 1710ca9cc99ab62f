package lower

import (
	"crosstree/api"
)

// The builtins, from firstBuiltin on.
const (
	malloc = firstBuiltin + iota
	free
	memcpy
	memset
	input
)

// call lowers a call, and returns the register of its result.
func (f *function) call(called api.Node, args []api.Node) int {
	named := called.Kind == api.NodeName
	switch {
	case named && called.N >= firstBuiltin:
		return f.builtin(called.N, args)
	case named && called.N >= firstFunction:
		return f.put(api.Insn{Op: api.OpCall, N: called.N - firstFunction, Args: f.values(args)})
	}
	p := f.value(called)
	return f.put(api.Insn{Op: api.OpCallP, B: p, Args: f.values(args)})
}

// builtin lowers a call of a builtin, and returns the register of its result; none if it has no result.
func (f *function) builtin(number int64, args []api.Node) int {
	if number == memcpy && sizeOfCopy(args[2]) {
		l := f.values(args[:2])
		f.add(api.Insn{Op: api.OpCopy, A: l[0], B: l[1], N: args[2].N})
		return none
	}
	l := f.values(args)
	switch number {
	case malloc:
		return f.put(api.Insn{Op: api.OpMalloc, B: l[0], N: f.heapSite(args[0])})
	case free:
		f.add(api.Insn{Op: api.OpFree, A: l[0]})
	case memcpy:
		f.add(api.Insn{Op: api.OpMove, A: l[0], B: l[1], C: l[2]})
	case memset:
		f.add(api.Insn{Op: api.OpFill, A: l[0], B: l[1], C: l[2]})
	case input:
		return f.put(api.Insn{Op: api.OpInput})
	}
	return none
}

// sizeOfCopy reports whether an expression is a number that an OpCopy may have.
func sizeOfCopy(n api.Node) bool {
	return n.Kind == api.NodeNumber && n.N >= 0 && n.N <= api.MaxSize
}

// heapSite adds a site for a malloc of so many bytes. Where their number isn't known, or can't be right, it may be any.
func (f *function) heapSite(n api.Node) int64 {
	size := -1
	if n.Kind == api.NodeNumber && n.N >= 1 && n.N <= api.MaxSize {
		size = int(n.N)
	}
	return int64(f.addSite(api.Site{Kind: api.SiteHeap, Size: size, Func: -1, Name: "malloc"}))
}
