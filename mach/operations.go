package mach

import (
	"crosstree/api"
)

// turn is an instruction at work in its frame.
type turn struct {
	*frame
	api.Insn
}

// The values of the registers that an instruction names A, B and C.
func (t turn) a() api.Value { return t.registers[t.A] }
func (t turn) b() api.Value { return t.registers[t.B] }
func (t turn) c() api.Value { return t.registers[t.C] }

// args returns the values of the registers Args.
func (t turn) args() []api.Value {
	var l []api.Value
	for _, r := range t.Args {
		l = append(l, t.registers[r])
	}
	return l
}

// operation executes an instruction. With an error it has no effect but that blocks were allocated for locals.
type operation func(turn) api.Errno

// acts makes an operation of what leads to the next instruction.
func acts(act operation) operation {
	return func(t turn) api.Errno {
		e := act(t)
		if e == api.OK {
			t.pc++
		}
		return e
	}
}

// writes makes an operation of what computes the value of A.
func writes(compute func(turn) (api.Value, api.Errno)) operation {
	return acts(func(t turn) api.Errno {
		v, e := compute(t)
		if e == api.OK {
			t.registers[t.A] = v
		}
		return e
	})
}

// table returns what each Op does on the machine.
func (m *Machine) table() map[int]operation {
	return map[int]operation{
		api.OpConst: writes(func(t turn) (api.Value, api.Errno) { return number(t.N), api.OK }),
		api.OpInput: writes(func(t turn) (api.Value, api.Errno) { return number(next(&m.input)), api.OK }),
		api.OpAddr:  writes(func(t turn) (api.Value, api.Errno) { return m.address(t.frame, t.B) }),
		api.OpAdd:   writes(func(t turn) (api.Value, api.Errno) { return m.memory.Add(t.b(), t.N) }),
		api.OpIndex: writes(func(t turn) (api.Value, api.Errno) { return m.index(t.b(), t.c(), t.N) }),
		api.OpBin:   writes(func(t turn) (api.Value, api.Errno) { return m.bin(t.Sign, t.b(), t.c()) }),
		api.OpUn:    writes(func(t turn) (api.Value, api.Errno) { return Un(t.Sign, t.b()) }),
		api.OpFit:   writes(func(t turn) (api.Value, api.Errno) { return Fit(t.b(), t.W) }),
		api.OpLoad:  writes(func(t turn) (api.Value, api.Errno) { return m.memory.Load(t.b(), t.W) }),
		api.OpMalloc: writes(func(t turn) (api.Value, api.Errno) {
			return m.malloc(t.b(), int(t.N))
		}),
		api.OpStore: acts(func(t turn) api.Errno { return m.memory.Store(t.a(), t.W, t.b()) }),
		api.OpCopy:  acts(func(t turn) api.Errno { return m.memory.Copy(t.a(), t.b(), t.N) }),
		api.OpMove:  acts(func(t turn) api.Errno { return m.move(t.a(), t.b(), t.c()) }),
		api.OpFill:  acts(func(t turn) api.Errno { return m.memory.Fill(t.a(), t.b(), t.c()) }),
		api.OpFree:  acts(func(t turn) api.Errno { return m.free(t.a()) }),
		api.OpCall:  func(t turn) api.Errno { return m.enter(int(t.N), t.args()) },
		api.OpCallP: func(t turn) api.Errno {
			fn, ok := m.called(t.b(), len(t.Args))
			if !ok {
				return api.ErrUndef
			}
			return m.enter(fn, t.args())
		},
		api.OpReturn: func(t turn) api.Errno {
			var result api.Value
			if t.A != -1 {
				result = t.a()
			}
			m.leave(result)
			return api.OK
		},
		api.OpJump: func(t turn) api.Errno {
			t.pc = int(t.N)
			return api.OK
		},
		api.OpIf: func(t turn) api.Errno { return t.branch() },
	}
}

// branch goes to N if A is the number 0.
func (t turn) branch() api.Errno {
	switch v := t.a(); {
	case v.Frag != 0:
		return api.ErrUndef
	case v == number(0):
		t.pc = int(t.N)
	default:
		t.pc++
	}
	return api.OK
}

// next takes the first element away from a list, or is zero if there is none.
func next[E any](l *[]E) E {
	var taken E
	if len(*l) > 0 {
		taken, *l = (*l)[0], (*l)[1:]
	}
	return taken
}

// address returns the pointer to the block of a site.
func (m *Machine) address(f *frame, site int) (api.Value, api.Errno) {
	block := m.block(f, site)
	if block == 0 {
		return api.Value{}, api.ErrUndef
	}
	return pointer(block), api.OK
}

// How far steps and their number may go with a pointer, and how far a number that is added to one.
const (
	farthestStep = 4096
	farthest     = 1 << 62
)

// index returns the value that is i times n from b.
func (m *Machine) index(b, i api.Value, n int64) (api.Value, api.Errno) {
	switch {
	case isNumber(b) && isNumber(i):
		return number(b.N + i.N*n), api.OK
	case isPointer(b) && isNumber(i) && within(i.N, -farthestStep, farthestStep) && within(n, 0, farthestStep):
		return m.memory.Add(b, i.N*n)
	}
	return api.Value{}, api.ErrUndef
}

// bin is Bin, and the sums of a pointer and a number too, for which the memory must be asked.
func (m *Machine) bin(sign string, b, c api.Value) (api.Value, api.Errno) {
	switch {
	case sign == "+" && isPointer(b) && isDistance(c):
		return m.memory.Add(b, c.N)
	case sign == "+" && isDistance(b) && isPointer(c):
		return m.memory.Add(c, b.N)
	case sign == "-" && isPointer(b) && isDistance(c):
		return m.memory.Add(b, -c.N)
	}
	return Bin(sign, b, c)
}

// isDistance tells whether a value is a number that may be added to a pointer.
func isDistance(v api.Value) bool {
	return isNumber(v) && within(v.N, -farthest, farthest)
}

func within(n, from, to int64) bool {
	return n >= from && n <= to
}

// malloc returns a pointer to a new block, or the number 0 if the allocation fails. The script's next failure is taken for it even if it fails anyway.
func (m *Machine) malloc(size api.Value, site int) (api.Value, api.Errno) {
	if !isNumber(size) {
		return api.Value{}, api.ErrUndef
	}
	if next(&m.fails) || !within(size.N, 0, api.MaxSize) {
		return number(0), api.OK
	}
	block, e := m.memory.Alloc(site, int(size.N), false)
	if e != api.OK {
		return number(0), api.OK
	}
	return pointer(block), api.OK
}

// free ends a block that malloc returned; of the number 0 there is none. Whoever has the memory may have allocated blocks there for sites that there aren't.
func (m *Machine) free(v api.Value) api.Errno {
	if v == number(0) {
		return api.OK
	}
	site, _, _ := m.memory.Block(v.Block)
	if !isPointer(v) || v.N != 0 || site < 0 || site >= len(m.places) || m.places[site].kind != api.SiteHeap {
		return api.ErrUndef
	}
	return m.memory.End(v.Block)
}

// move copies n bytes.
func (m *Machine) move(to, from, n api.Value) api.Errno {
	if !isNumber(n) {
		return api.ErrUndef
	}
	return m.memory.Copy(to, from, n.N)
}
