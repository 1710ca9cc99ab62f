package lower

import (
	"crosstree/api"
	"crosstree/ctype"
)

// What names refer to is numbered from these numbers on (see check).
const (
	firstVariable = 1000
	firstFunction = 2000
	firstBuiltin  = 3000
)

// function is a function that is being lowered, and what it has so far.
type function struct {
	*unit
	api.Fn
	result api.T
	loop   *loop // the innermost one around the statement that is being lowered
}

// lowered lowers a function, with all of its sites.
func (u *unit) lowered(number int, n api.Node) api.Fn {
	params := len(n.Kids) - 1
	f := &function{unit: u, Fn: api.Fn{Name: n.Text, Regs: params, Params: params}, result: n.T.Of[0]}
	for _, v := range variables(n) {
		at := u.addSite(api.Site{Kind: api.SiteLocal, Size: int(u.bytes(v.T)), Func: number, Name: v.Text, T: v.T})
		f.Locals = append(f.Locals, at)
	}
	for i, k := range n.Kids[:params] {
		r := f.put(api.Insn{Op: api.OpAddr, B: f.Locals[i]})
		f.add(api.Insn{Op: api.OpStore, A: r, B: i, W: ctype.Width(k.T)})
	}
	f.stmt(n.Kids[params])
	f.add(api.Insn{Op: api.OpReturn, A: none})
	return f.Fn
}

// variables returns the parameters and NodeDecls of a function, as check numbers them.
func variables(n api.Node) []api.Node {
	var l []api.Node
	for _, k := range n.Kids {
		if k.Kind == api.NodeDecl {
			l = append(l, k)
		}
		l = append(l, variables(k)...)
	}
	return l
}

// site is the site of what a name with that number refers to, which is no builtin.
func (f *function) site(number int64) int {
	n := int(number)
	switch {
	case n >= firstFunction:
		return n - firstFunction
	case n >= firstVariable:
		return f.Locals[n-firstVariable]
	}
	return f.first + n
}

// add appends an instruction that writes no register.
func (f *function) add(i api.Insn) {
	f.Code = append(f.Code, i)
}

// put appends an instruction that writes a fresh register, and returns the register.
func (f *function) put(i api.Insn) int {
	i.A = f.Regs
	f.Regs++
	f.add(i)
	return i.A
}

// here is the index of the next instruction.
func (f *function) here() int64 {
	return int64(len(f.Code))
}

// jump appends a jump whose target isn't known yet: calling what it returns makes it lead to the instruction that is next then.
func (f *function) jump(i api.Insn) func() {
	at := len(f.Code)
	f.add(i)
	return func() { f.Code[at].N = f.here() }
}
