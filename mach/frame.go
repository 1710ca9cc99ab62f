package mach

import (
	"crosstree/api"
)

// frame is an active call.
type frame struct {
	api.Fn
	number    int // the function's
	pc        int // of the next instruction; while a function is called, of the call
	registers []api.Value
	blocks    []int // one for each of Locals
}

// enter begins a frame. Blocks that were allocated for locals ahead of one for which none can be remain, and live.
func (m *Machine) enter(fn int, args []api.Value) api.Errno {
	if len(m.frames) >= api.MaxFrames {
		return api.ErrRange
	}
	f := &frame{Fn: m.functions[fn], number: fn}
	for _, k := range f.Locals {
		block, e := m.memory.Alloc(k, m.places[k].size, false)
		if e != api.OK {
			return api.ErrSize
		}
		f.blocks = append(f.blocks, block)
	}
	f.registers = make([]api.Value, f.Regs)
	copy(f.registers, args)
	m.frames = append(m.frames, f)
	return api.OK
}

// leave ends the innermost frame. The frame that called it goes on behind its call.
func (m *Machine) leave(result api.Value) {
	last := len(m.frames) - 1
	for _, block := range m.frames[last].blocks {
		m.memory.End(block)
	}
	m.frames = m.frames[:last]
	if last == 0 {
		m.result = result
		return
	}
	f := m.frames[last-1]
	f.registers[f.Code[f.pc].A] = result
	f.pc++
}

// called returns the function that a pointer points to, and whether it takes so many arguments. The functions' blocks are the first ones, in their order, since their sites are.
func (m *Machine) called(v api.Value, args int) (int, bool) {
	fn := v.Block - 1
	if !isPointer(v) || v.N != 0 || fn >= len(m.functions) || m.functions[fn].Params != args {
		return 0, false
	}
	return fn, true
}

// block returns the block of a site in a frame, or 0 if it has none there.
func (m *Machine) block(f *frame, site int) int {
	if m.places[site].kind != api.SiteLocal {
		return m.places[site].block
	}
	for n, k := range f.Locals {
		if k == site {
			return f.blocks[n]
		}
	}
	return 0
}
