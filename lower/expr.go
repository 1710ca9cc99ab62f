package lower

import (
	"crosstree/api"
	"crosstree/ctype"
	"crosstree/layout"
)

// none stands where there is no register.
const none = -1

// wide is the bytes of a whole register: what is as wide fits as it is.
const wide = 8

// address computes the address of an expression, and returns its register.
func (f *function) address(n api.Node) int {
	switch n.Kind {
	case api.NodeName:
		return f.put(api.Insn{Op: api.OpAddr, B: f.site(n.N)})
	case api.NodeIndex:
		b := f.value(n.Kids[0])
		i := f.value(n.Kids[1])
		return f.index(b, i, n.T)
	case api.NodeDot:
		return f.field(f.address(n.Kids[0]), n.Kids[0].T, n.Text)
	case api.NodeArrow:
		t, _ := pointee(n.Kids[0])
		return f.field(f.value(n.Kids[0]), t, n.Text)
	case api.NodeUnary:
		if n.Text == "*" {
			return f.value(n.Kids[0])
		}
	}
	return f.value(n)
}

// value computes the value of an expression, and returns its register; none if it has no value.
func (f *function) value(n api.Node) int {
	switch n.Kind {
	case api.NodeNumber:
		return f.constant(n.N)
	case api.NodeUnary:
		if n.Text != "*" {
			return f.unary(n.Text, n.Kids[0])
		}
	case api.NodeBinary:
		return f.binary(n.Text, n.Kids[0], n.Kids[1])
	case api.NodeAssign:
		a := f.address(n.Kids[0])
		return f.fit(f.assign(a, n.T, n.Kids[1]), n.T)
	case api.NodeCast:
		return f.fit(f.value(n.Kids[0]), n.T)
	case api.NodeCall:
		return f.call(n.Kids[0], n.Kids[1:])
	}
	return f.held(f.address(n), n.T)
}

// values computes the values of expressions in order.
func (f *function) values(l []api.Node) []int {
	var registers []int
	for _, n := range l {
		registers = append(registers, f.value(n))
	}
	return registers
}

// held returns the value of what is of the type t at the address a: what isn't scalar stands for itself by its address.
func (f *function) held(a int, t api.T) int {
	if !ctype.Scalar(t) {
		return a
	}
	return f.put(api.Insn{Op: api.OpLoad, B: a, W: ctype.Width(t)})
}

func (f *function) constant(n int64) int {
	return f.put(api.Insn{Op: api.OpConst, N: n})
}

// operation computes a by sign and b.
func (f *function) operation(sign string, a, b int) int {
	return f.put(api.Insn{Op: api.OpBin, B: a, C: b, Sign: sign})
}

// index computes the address of the i-th element behind b, where the elements are of the type t.
func (f *function) index(b, i int, t api.T) int {
	return f.put(api.Insn{Op: api.OpIndex, B: b, C: i, N: f.bytes(t)})
}

// field computes the address of a field of the record of t at the address a.
func (f *function) field(a int, t api.T, name string) int {
	x, _ := layout.Find(f.recs, t, name)
	return f.put(api.Insn{Op: api.OpAdd, B: a, N: int64(x.Off)})
}

// fit makes the value in r one of the type t.
func (f *function) fit(r int, t api.T) int {
	w := ctype.Width(t)
	if !ctype.Scalar(t) || w == wide {
		return r
	}
	return f.put(api.Insn{Op: api.OpFit, B: r, W: w})
}

// assign stores the value of n, for a type t, at the address a, and returns it as it was before it was stored; a record is told by a.
func (f *function) assign(a int, t api.T, n api.Node) int {
	b := f.value(n)
	if ctype.Scalar(t) {
		f.add(api.Insn{Op: api.OpStore, A: a, B: b, W: ctype.Width(t)})
		return b
	}
	f.add(api.Insn{Op: api.OpCopy, A: a, B: b, N: f.bytes(t)})
	return a
}

// unary computes an operator other than *.
func (f *function) unary(sign string, n api.Node) int {
	switch sign {
	case "&":
		return f.address(n)
	case "!":
		k := f.value(n)
		return f.operation("==", k, f.constant(0))
	}
	return f.put(api.Insn{Op: api.OpUn, B: f.value(n), Sign: sign})
}

// binary computes an operator. Pointers are counted by what they point to, except where they are compared.
func (f *function) binary(sign string, left, right api.Node) int {
	a := f.value(left)
	b := f.value(right)
	t, isLeft := pointee(left)
	u, isRight := pointee(right)
	switch {
	case sign == "+" && isLeft:
		return f.index(a, b, t)
	case sign == "+" && isRight:
		return f.index(b, a, u)
	case sign == "-" && isRight:
		d := f.operation("-", a, b)
		return f.operation("/", d, f.constant(f.bytes(u)))
	case sign == "-" && isLeft:
		m := f.put(api.Insn{Op: api.OpUn, B: b, Sign: "-"})
		return f.index(a, m, t)
	}
	return f.operation(sign, a, b)
}

// pointee returns the type that the value of an expression points to, and false if it is no pointer.
func pointee(n api.Node) (api.T, bool) {
	t := ctype.Decay(n.T)
	if t.Kind != api.TPtr {
		return api.T{}, false
	}
	return t.Of[0], true
}
