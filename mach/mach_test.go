package mach_test

import (
	"math"
	"slices"
	"testing"

	"crosstree/api"
	"crosstree/mach"
	"crosstree/mem"
)

// P11.2, P11.4 and P11.5: how a machine begins, what it tells, and how it stops.

// The sites of the programs of these tests, and the blocks that they have.
const (
	siteMain, siteF, siteG        = 0, 1, 2
	siteHeap, siteOther           = 3, 8 // of the Kind SiteHeap
	siteNone                      = 9    // of no Kind
	siteBig, siteSmall            = 4, 6 // globals of 32 and 4 bytes
	siteLocal, siteTwo            = 5, 7 // locals of main (16 bytes) and of f (8 bytes)
	blockMain, blockF, blockG     = 1, 2, 3
	blockBig, blockSmall, blockLo = 4, 5, 6
	firstFree                     = 7 // the first block that is allocated behind those of New
)

const fnMain, fnF, fnG = 0, 1, 2

func op(op, a, b, c int) api.Insn { return api.Insn{Op: op, A: a, B: b, C: c} }

func constant(a int, n int64) api.Insn { return api.Insn{Op: api.OpConst, A: a, N: n} }

func address(a, site int) api.Insn { return api.Insn{Op: api.OpAddr, A: a, B: site} }

func add(a, b int, n int64) api.Insn { return api.Insn{Op: api.OpAdd, A: a, B: b, N: n} }

func index(a, b, c int, n int64) api.Insn { return api.Insn{Op: api.OpIndex, A: a, B: b, C: c, N: n} }

func binary(a int, sign string, b, c int) api.Insn {
	return api.Insn{Op: api.OpBin, A: a, B: b, C: c, Sign: sign}
}

func load(a, b, w int) api.Insn { return api.Insn{Op: api.OpLoad, A: a, B: b, W: w} }

func store(a, b, w int) api.Insn { return api.Insn{Op: api.OpStore, A: a, B: b, W: w} }

func malloc(a, b int) api.Insn { return api.Insn{Op: api.OpMalloc, A: a, B: b, N: siteHeap} }

func call(a, n int, args ...int) api.Insn {
	return api.Insn{Op: api.OpCall, A: a, N: int64(n), Args: args}
}

func callAt(a, b int, args ...int) api.Insn {
	return api.Insn{Op: api.OpCallP, A: a, B: b, Args: args}
}

func jump(n int64) api.Insn { return api.Insn{Op: api.OpJump, N: n} }

func branch(a int, n int64) api.Insn { return api.Insn{Op: api.OpIf, A: a, N: n} }

func leave(a int) api.Insn { return api.Insn{Op: api.OpReturn, A: a} }

// program returns one whose main has this code; f takes two numbers and returns the first minus the second, g takes none and returns nothing.
func program(code ...api.Insn) api.Prog {
	return api.Prog{
		Sites: []api.Site{
			{Kind: api.SiteFunc, Func: 0}, {Kind: api.SiteFunc, Size: 3, Func: 0}, {Kind: api.SiteFunc, Func: -1},
			{Kind: api.SiteHeap, Size: -1, Func: -1}, {Kind: api.SiteGlobal, Size: 32, Func: -1}, {Kind: api.SiteLocal, Size: 16, Func: 0},
			{Kind: api.SiteGlobal, Size: 4, Func: -1}, {Kind: api.SiteLocal, Size: 8, Func: 1}, {Kind: api.SiteHeap, Size: 5000, Func: -1}, {Size: 7},
		},
		Fns: []api.Fn{
			{Name: "main", Regs: 10, Locals: []int{siteLocal}, Code: append(slices.Clone(code), leave(-1))},
			{Name: "f", Regs: 4, Params: 2, Locals: []int{siteTwo}, Code: []api.Insn{binary(3, "-", 0, 1), leave(3)}},
			{Name: "g", Regs: 1, Code: []api.Insn{leave(-1)}},
		},
	}
}

var enough = api.Script{Fuel: api.MaxFuel}

func begun(t *testing.T, p api.Prog, s api.Script) *mach.Machine {
	t.Helper()
	m, e := mach.New(p, s)
	if e != api.OK || m == nil {
		t.Fatalf("New: %v, %d", m, e)
	}
	return m
}

func wantNoNew(t *testing.T, what string, p api.Prog, want api.Errno) {
	t.Helper()
	if m, e := mach.New(p, enough); m != nil || e != want {
		t.Errorf("%s: New: %v, %d, not %d", what, m, e, want)
	}
}

func wantMoment(t *testing.T, m *mach.Machine, want api.Moment) {
	t.Helper()
	if x := m.Step(); x != want {
		t.Errorf("Step: %+v, not %+v", x, want)
	}
}

// plain is a step of main that calls nothing.
func plain(pc int, e api.Errno) api.Moment { return api.Moment{Fn: fnMain, Pc: pc, Call: -1, Err: e} }

var ended = api.Moment{Call: -1, Err: api.ErrNone}

// stepped makes n steps, which have no error.
func stepped(t *testing.T, m *mach.Machine, n int) {
	t.Helper()
	for k := range n {
		if x := m.Step(); x.Err != api.OK {
			t.Fatalf("step %d: %+v", k, x)
		}
	}
}

// after returns a machine that has executed this code, which makes as many steps as it has instructions, in main.
func after(t *testing.T, code ...api.Insn) *mach.Machine {
	t.Helper()
	m := begun(t, program(code...), enough)
	stepped(t, m, len(code))
	return m
}

func wantFrame(t *testing.T, m *mach.Machine, i, fn, pc int, registers ...api.Value) {
	t.Helper()
	if n, at, l := m.Frame(i); n != fn || at != pc || !slices.Equal(l, registers) {
		t.Errorf("frame %d: %d, %d, %v, not %d, %d, %v", i, n, at, l, fn, pc, registers)
	}
}

// wantRegister compares a register of the innermost frame.
func wantRegister(t *testing.T, m *mach.Machine, r int, want api.Value) {
	t.Helper()
	if _, _, l := m.Frame(m.Depth() - 1); r >= len(l) || l[r] != want {
		t.Errorf("register %d of %v is not %v", r, l, want)
	}
}

func wantBlock(t *testing.T, m *mem.Mem, block, site, size int, live bool) {
	t.Helper()
	if s, n, l := m.Block(block); s != site || n != size || l != live {
		t.Errorf("block %d: %d, %d, %v, not %d, %d, %v", block, s, n, l, site, size, live)
	}
}

// wantKind compares the kind of all bytes of a block, and holds that they are the number 0 or nothing.
func wantKind(t *testing.T, m *mem.Mem, block, kind int) {
	t.Helper()
	for i, b := range m.Bytes(block) {
		if b != (api.Byte{Kind: kind}) {
			t.Errorf("byte %d of block %d is %v", i, block, b)
		}
	}
}

func wantDepth(t *testing.T, m *mach.Machine, want int) {
	t.Helper()
	if n := m.Depth(); n != want {
		t.Errorf("%d frames, not %d", n, want)
	}
}

func wantResult(t *testing.T, m *mach.Machine, want api.Value) {
	t.Helper()
	if v := m.Result(); v != want {
		t.Errorf("the result is %v, not %v", v, want)
	}
}

func TestNewAllocatesInOrder(t *testing.T) {
	m := begun(t, program(), enough)
	l := m.Mem()
	for k, c := range []struct{ site, size, kind int }{{siteMain, 0, 1}, {siteF, 3, 1}, {siteG, 0, 1}, {siteBig, 32, 1}, {siteSmall, 4, 1}, {siteLocal, 16, 0}} {
		wantBlock(t, l, k+1, c.site, c.size, true)
		wantKind(t, l, k+1, c.kind)
	}
	wantBlock(t, l, firstFree, 0, 0, false)
	wantDepth(t, m, 1)
	wantFrame(t, m, 0, fnMain, 0, make([]api.Value, 10)...)
	wantResult(t, m, num(0))
}

func TestNewBeginsAtMain(t *testing.T) {
	p := program()
	p.Main = fnF
	m := begun(t, p, enough)
	wantFrame(t, m, 0, fnF, 0, num(0), num(0), num(0), num(0))
	wantBlock(t, m.Mem(), 6, siteTwo, 8, true)
	wantBlock(t, m.Mem(), 7, 0, 0, false)
	wantMoment(t, m, api.Moment{Fn: fnF, Call: -1})
	wantMoment(t, m, api.Moment{Fn: fnF, Pc: 1, Call: -1, Done: true})
	p.Main = fnG
	m = begun(t, p, enough)
	wantBlock(t, m.Mem(), 6, 0, 0, false)
	wantMoment(t, m, api.Moment{Fn: fnG, Call: -1, Done: true})
	wantMoment(t, m, ended)
}

func TestNewHasTheErrorsOfCheck(t *testing.T) {
	p := program()
	p.Main = 3
	wantNoNew(t, "no main", p, api.ErrRange)
	wantNoNew(t, "nothing", api.Prog{}, api.ErrRange)
	wantNoNew(t, "a wrong operation", program(op(21, 0, 0, 0)), api.ErrArg)
	wantNoNew(t, "a wrong register", program(constant(10, 0)), api.ErrRange)
	wantNoNew(t, "a wrong sign", program(binary(0, "&&", 0, 0)), api.ErrRange)
	p = program()
	p.Fns[fnG].Code = nil
	wantNoNew(t, "no code", p, api.ErrSize)
	p = program()
	p.Sites[siteBig].Size = 4097
	p.Fns[fnG].Locals = []int{siteTwo}
	wantNoNew(t, "another's local, ahead of a size", p, api.ErrRange)
}

func TestNewHasTheErrorsOfSizes(t *testing.T) {
	for _, site := range []int{siteMain, siteF, siteBig, siteSmall, siteLocal} {
		for size, want := range map[int]api.Errno{4096: api.OK, 0: api.OK, 4097: api.ErrSize, -1: api.ErrSize, math.MaxInt: api.ErrSize, math.MinInt: api.ErrSize} {
			p := program()
			p.Sites[site].Size = size
			if m, e := mach.New(p, enough); e != want || (m == nil) != (e != api.OK) {
				t.Errorf("%d bytes of the site %d: %v, %d", size, site, m, e)
			}
		}
	}
	for _, site := range []int{siteTwo, siteHeap, siteNone} {
		p := program()
		p.Sites[site].Size = -1
		begun(t, p, enough)
	}
}

func TestNewHasTheLimitOfBlocks(t *testing.T) {
	p := program()
	for len(p.Fns[fnMain].Locals) < api.MaxBlocks-5 {
		p.Fns[fnMain].Locals = append(p.Fns[fnMain].Locals, siteLocal)
	}
	m := begun(t, p, enough)
	wantBlock(t, m.Mem(), api.MaxBlocks, siteLocal, 16, true)
	p.Fns[fnMain].Locals = append(p.Fns[fnMain].Locals, siteLocal)
	wantNoNew(t, "too many locals", p, api.ErrSize)
}

func TestStepsToTheEnd(t *testing.T) {
	m := begun(t, program(constant(2, 7), jump(3), constant(2, 8), leave(2)), enough)
	wantMoment(t, m, plain(0, api.OK))
	wantFrame(t, m, 0, fnMain, 1, num(0), num(0), num(7), num(0), num(0), num(0), num(0), num(0), num(0), num(0))
	wantMoment(t, m, plain(1, api.OK))
	wantResult(t, m, num(0))
	wantMoment(t, m, api.Moment{Pc: 3, Call: -1, Done: true})
	for range 3 {
		wantMoment(t, m, ended)
		wantDepth(t, m, 0)
		wantFrame(t, m, 0, 0, 0)
		wantResult(t, m, num(7))
	}
	wantBlock(t, m.Mem(), blockLo, siteLocal, 16, false)
	wantBlock(t, m.Mem(), blockBig, siteBig, 32, true)
}

func TestStopsAtAnError(t *testing.T) {
	m := begun(t, program(constant(1, 3), binary(1, "/", 1, 0), constant(1, 4)), enough)
	wantMoment(t, m, plain(0, api.OK))
	for range 3 {
		wantMoment(t, m, plain(1, api.ErrUndef))
		wantRegister(t, m, 1, num(3))
		wantDepth(t, m, 1)
		_, pc, _ := m.Frame(0)
		if pc != 1 {
			t.Errorf("the machine goes on to %d", pc)
		}
	}
	wantResult(t, m, num(0))
}

func TestFuel(t *testing.T) {
	loop := program(add(1, 1, 1), jump(0))
	for _, c := range []struct{ fuel, steps int }{{0, 0}, {-1, 0}, {math.MinInt, 0}, {1, 1}, {7, 7}, {api.MaxFuel, 20000}, {api.MaxFuel + 1, 20000}, {math.MaxInt, 20000}} {
		m := begun(t, loop, api.Script{Fuel: c.fuel})
		stepped(t, m, c.steps)
		for range 2 {
			wantMoment(t, m, plain(c.steps%2, api.ErrBudget))
		}
		wantRegister(t, m, 1, num(int64(c.steps+1)/2))
	}
}

func TestFuelThatIsJustEnough(t *testing.T) {
	for fuel, want := range map[int]api.Moment{2: plain(2, api.ErrBudget), 3: ended} {
		m := begun(t, program(constant(1, 3), constant(2, 3)), api.Script{Fuel: fuel})
		stepped(t, m, fuel)
		wantMoment(t, m, want)
		wantMoment(t, m, want)
	}
	// Neither an error nor the end is hidden by there being no more fuel.
	m := begun(t, program(binary(1, "/", 0, 0)), api.Script{Fuel: 1})
	wantMoment(t, m, plain(0, api.ErrUndef))
	wantMoment(t, m, plain(0, api.ErrUndef))
	m = begun(t, program(binary(1, "/", 0, 0)), api.Script{})
	wantMoment(t, m, plain(0, api.ErrBudget))
	wantMoment(t, m, plain(0, api.ErrBudget))
}

func TestFrameAndDepth(t *testing.T) {
	m := after(t, constant(1, 9), constant(2, 4), call(3, fnF, 1, 2))
	wantDepth(t, m, 2)
	wantFrame(t, m, 0, fnMain, 2, num(0), num(9), num(4), num(0), num(0), num(0), num(0), num(0), num(0), num(0))
	wantFrame(t, m, 1, fnF, 0, num(9), num(4), num(0), num(0))
	stepped(t, m, 1)
	wantFrame(t, m, 1, fnF, 1, num(9), num(4), num(0), num(5))
	for _, i := range []int{-1, 2, 3, math.MaxInt, math.MinInt} {
		wantFrame(t, m, i, 0, 0)
	}
}

func TestNilMachine(t *testing.T) {
	var m *mach.Machine
	for range 2 {
		wantMoment(t, m, ended)
		wantDepth(t, m, 0)
		wantResult(t, m, num(0))
		wantFrame(t, m, 0, 0, 0)
		wantFrame(t, m, -1, 0, 0)
		if m.Mem() != nil {
			t.Error("it has a memory")
		}
	}
}

func TestTheMemoryIsTheMachinesOwn(t *testing.T) {
	m := begun(t, program(address(1, siteBig), load(2, 1, 4)), enough)
	l := m.Mem()
	if e := l.Store(ptr(blockBig, 0), 4, num(77)); e != api.OK {
		t.Fatal(e)
	}
	stepped(t, m, 2)
	wantRegister(t, m, 2, num(77))
	if m.Mem() != l {
		t.Error("another memory")
	}
}
