package gen

import (
	"crosstree/api"
)

// creators create the constraints of one instruction.
type creators struct {
	base func(a, site int) api.Con
	flow func(kind, a, b, n int) api.Con
	call func(a, b int, args []int) api.Con
}

// creatorsAt returns those of the instruction at pc of a function.
func creatorsAt(fn, pc int) creators {
	flow := func(kind, a, b, n int) api.Con {
		return api.Con{Kind: kind, A: a, B: b, N: n, Fn: fn, Pc: pc}
	}
	base := func(a, site int) api.Con {
		c := flow(api.ConBase, a, 0, 0)
		c.Loc.Site = site
		return c
	}
	call := func(a, b int, args []int) api.Con {
		c := flow(api.ConCall, a, b, 0)
		c.Args = args
		return c
	}
	return creators{base: base, flow: flow, call: call}
}

// insn collects the constraints of an instruction.
func (g *generator) insn(fn, pc int, i api.Insn) {
	create := creatorsAt(fn, pc)
	a, b := g.first[fn]+i.A, g.first[fn]+i.B
	switch i.Op {
	case api.OpAddr:
		g.collect(create.base(a, i.B))
	case api.OpMalloc:
		g.collect(create.base(a, int(i.N)))
	case api.OpAdd:
		if i.N >= -api.MaxSize && i.N <= api.MaxSize {
			g.collect(create.flow(api.ConAdd, a, b, int(i.N)))
		}
	case api.OpIndex:
		if i.N >= 0 && i.N <= api.MaxSize {
			g.collect(create.flow(api.ConAny, a, b, int(i.N)))
		}
	case api.OpBin:
		g.bin(create, a, b, g.first[fn]+i.C, i.Sign)
	case api.OpFit:
		if mayHoldPart(i.W) {
			g.collect(create.flow(api.ConCopy, a, b, 0))
		}
	case api.OpLoad:
		if mayHoldPart(i.W) {
			g.collect(create.flow(api.ConLoad, a, b, i.W))
		}
	case api.OpStore:
		if mayHoldPart(i.W) {
			g.collect(create.flow(api.ConStore, a, b, i.W))
		}
	case api.OpCopy:
		g.collect(create.flow(api.ConMove, a, b, int(i.N)))
	case api.OpMove:
		g.collect(create.flow(api.ConMove, a, b, -1))
	case api.OpCall:
		g.call(create, a, i.N, g.variables(fn, i.Args...))
	case api.OpCallP:
		g.collect(create.call(a, b, g.variables(fn, i.Args...)))
	case api.OpReturn:
		if i.A != -1 {
			g.collect(create.flow(api.ConCopy, g.result(fn), a, 0))
		}
	}
}

// bin collects the constraints of an OpBin. Of a sum either operand may be the pointer, of a difference only the first.
func (g *generator) bin(create creators, a, b, c int, sign string) {
	switch sign {
	case "+":
		g.collect(create.flow(api.ConAny, a, b, 1), create.flow(api.ConAny, a, c, 1))
	case "-":
		g.collect(create.flow(api.ConAny, a, b, 1))
	}
}

// call collects the constraints of a call of the function n: none if there is no such function.
func (g *generator) call(create creators, a int, n int64, args []int) {
	if n < 0 || n >= int64(len(g.fns)) {
		return
	}
	callee := int(n)
	for k, b := range args {
		g.collect(create.flow(api.ConCopy, g.first[callee]+k, b, 0))
	}
	g.collect(create.flow(api.ConCopy, a, g.result(callee), 0))
}

// mayHoldPart tells whether a value of so many bytes can be a pointer, or the part of one that a byte holds.
func mayHoldPart(width int) bool {
	return width == 1 || width == api.Pointer
}
