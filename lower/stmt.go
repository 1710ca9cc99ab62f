package lower

import (
	"crosstree/api"
)

// loop is a NodeWhile.
type loop struct {
	start int64    // where the computation of its condition begins
	ends  []func() // let the jumps to its end lead there
}

// stmt lowers a statement.
func (f *function) stmt(n api.Node) {
	switch n.Kind {
	case api.NodeBlock:
		for _, k := range n.Kids {
			f.stmt(k)
		}
	case api.NodeExpr:
		f.value(n.Kids[0])
	case api.NodeDecl:
		f.declare(n)
	case api.NodeReturn:
		f.leave(n)
	case api.NodeIf:
		f.choice(n)
	case api.NodeWhile:
		f.repeat(n)
	case api.NodeBreak:
		f.jumpToEnd(api.Insn{Op: api.OpJump})
	case api.NodeNext:
		f.jumpToStart()
	}
}

// declare lowers a declaration: only with an initial value anything is to be done.
func (f *function) declare(n api.Node) {
	for _, k := range n.Kids {
		a := f.put(api.Insn{Op: api.OpAddr, B: f.site(n.N)})
		f.assign(a, n.T, k)
	}
}

// leave lowers a return.
func (f *function) leave(n api.Node) {
	r := none
	for _, k := range n.Kids {
		r = f.fit(f.value(k), f.result)
	}
	f.add(api.Insn{Op: api.OpReturn, A: r})
}

// choice lowers an if.
func (f *function) choice(n api.Node) {
	end := f.jump(api.Insn{Op: api.OpIf, A: f.value(n.Kids[0])})
	f.stmt(n.Kids[1])
	if len(n.Kids) > 2 {
		second := end
		end = f.jump(api.Insn{Op: api.OpJump})
		second()
		f.stmt(n.Kids[2])
	}
	end()
}

// repeat lowers a while.
func (f *function) repeat(n api.Node) {
	around := f.loop
	f.loop = &loop{start: f.here()}
	f.jumpToEnd(api.Insn{Op: api.OpIf, A: f.value(n.Kids[0])})
	f.stmt(n.Kids[1])
	f.jumpToStart()
	for _, end := range f.loop.ends {
		end()
	}
	f.loop = around
}

// jumpToEnd appends a jump to the end of the innermost loop.
func (f *function) jumpToEnd(i api.Insn) {
	f.loop.ends = append(f.loop.ends, f.jump(i))
}

// jumpToStart appends a jump to where the condition of the innermost loop is computed.
func (f *function) jumpToStart() {
	f.add(api.Insn{Op: api.OpJump, N: f.loop.start})
}
