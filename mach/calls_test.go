package mach_test

import (
	"testing"

	"crosstree/api"
	"crosstree/mach"
)

// P11.3: calls and returns.

func TestCallAndReturn(t *testing.T) {
	m := begun(t, program(constant(1, 9), constant(2, 4), call(3, fnF, 1, 2), leave(3)), enough)
	stepped(t, m, 2)
	wantMoment(t, m, api.Moment{Pc: 2, Call: fnF})
	wantBlock(t, m.Mem(), firstFree, siteTwo, 8, true)
	wantKind(t, m.Mem(), firstFree, 0)
	wantMoment(t, m, api.Moment{Fn: fnF, Pc: 0, Call: -1})
	wantMoment(t, m, api.Moment{Fn: fnF, Pc: 1, Call: -1})
	wantBlock(t, m.Mem(), firstFree, siteTwo, 8, false)
	wantBlock(t, m.Mem(), blockLo, siteLocal, 16, true)
	wantDepth(t, m, 1)
	wantFrame(t, m, 0, fnMain, 3, num(0), num(9), num(4), num(5), num(0), num(0), num(0), num(0), num(0), num(0))
	wantResult(t, m, num(0))
	wantMoment(t, m, api.Moment{Pc: 3, Call: -1, Done: true})
	wantResult(t, m, num(5))
}

func TestReturnOfNothingIsZero(t *testing.T) {
	m := begun(t, program(constant(1, 9), call(1, fnG)), enough)
	stepped(t, m, 1)
	wantMoment(t, m, api.Moment{Pc: 1, Call: fnG})
	wantMoment(t, m, api.Moment{Fn: fnG, Call: -1})
	wantRegister(t, m, 1, num(0))
	wantMoment(t, m, api.Moment{Pc: 2, Call: -1, Done: true})
	wantResult(t, m, num(0))
}

func TestResultsOfAllKinds(t *testing.T) {
	m := after(t, withPart(leave(2))...)
	wantResult(t, m, part(blockBig, 0, 3))
	m = after(t, address(1, siteLocal), leave(1))
	wantResult(t, m, ptr(blockLo, 0))
	p := program(aPart()...)
	main := &p.Fns[fnMain]
	main.Code = append(main.Code[:4], call(3, fnF, 2, 1), leave(3))
	p.Fns[fnF].Code = []api.Insn{leave(0)}
	m = begun(t, p, enough)
	stepped(t, m, 6)
	wantRegister(t, m, 3, part(blockBig, 0, 3))
}

// A call may read the register that its result becomes, and one register more than once.
func TestArgsAreValues(t *testing.T) {
	m := after(t, constant(1, 9), call(1, fnF, 1, 1))
	wantFrame(t, m, 1, fnF, 0, num(9), num(9), num(0), num(0))
	stepped(t, m, 2)
	wantRegister(t, m, 1, num(0))
	m = after(t, address(1, siteLocal), constant(2, 3), call(0, fnF, 2, 1))
	wantFrame(t, m, 1, fnF, 0, num(3), ptr(blockLo, 0), num(0), num(0))
}

func TestCallThroughAPointer(t *testing.T) {
	m := begun(t, program(constant(1, 9), constant(2, 4), address(4, siteF), callAt(3, 4, 1, 2), address(4, siteG), callAt(3, 4)), enough)
	stepped(t, m, 3)
	wantMoment(t, m, api.Moment{Pc: 3, Call: fnF})
	wantFrame(t, m, 1, fnF, 0, num(9), num(4), num(0), num(0))
	stepped(t, m, 2)
	wantRegister(t, m, 3, num(5))
	stepped(t, m, 1)
	wantMoment(t, m, api.Moment{Pc: 5, Call: fnG})
	stepped(t, m, 1)
	wantRegister(t, m, 3, num(0))
}

func TestCallThroughWhatIsNoFunction(t *testing.T) {
	wantUndef(t, address(4, siteF), callAt(3, 4))
	wantUndef(t, address(4, siteF), callAt(3, 4, 1))
	wantUndef(t, address(4, siteF), callAt(3, 4, 1, 2, 0))
	wantUndef(t, address(4, siteG), callAt(3, 4, 1))
	wantUndef(t, address(4, siteF), add(4, 4, 1), callAt(3, 4, 1, 2))
	wantUndef(t, callAt(3, 0))
	wantUndef(t, constant(1, 1), callAt(3, 1))
	wantUndef(t, constant(1, 3), callAt(3, 1))
	wantUndef(t, constant(1, 8), malloc(2, 1), callAt(3, 2))
	for _, site := range []int{siteBig, siteSmall, siteLocal} {
		wantUndef(t, address(4, site), callAt(3, 4))
	}
	wantUndef(t, address(1, siteBig), address(4, siteG), store(1, 4, 8), load(4, 1, 1), callAt(3, 4))
}

// Whatever the Func of a function's site, its block is that of the function with the site's index.
func TestFuncOfASiteIsNotAsked(t *testing.T) {
	p := program(address(4, siteG), callAt(3, 4))
	for _, f := range []int{-1, 0, 1, 2, 77} {
		p.Sites[siteG].Func = f
		m := begun(t, p, enough)
		stepped(t, m, 1)
		wantMoment(t, m, api.Moment{Pc: 1, Call: fnG})
	}
}

// recursive returns a program whose main has as many locals and calls itself.
func recursive(locals int) api.Prog {
	p := program(constant(1, 9), call(2, fnMain), constant(1, 8))
	p.Fns[fnMain].Locals = make([]int, locals)
	for i := range locals {
		p.Fns[fnMain].Locals[i] = siteLocal
	}
	return p
}

func TestFrames(t *testing.T) {
	m := begun(t, recursive(1), enough)
	stepped(t, m, 1)
	for depth := 1; depth < api.MaxFrames; depth++ {
		wantDepth(t, m, depth)
		wantMoment(t, m, api.Moment{Pc: 1, Call: fnMain})
		stepped(t, m, 1)
	}
	for range 2 {
		wantMoment(t, m, plain(1, api.ErrRange))
		wantDepth(t, m, 200)
	}
	wantBlock(t, m.Mem(), blockLo+199, siteLocal, 16, true)
	wantBlock(t, m.Mem(), blockLo+200, 0, 0, false)
}

// deepest returns a program whose main calls itself until there are 200 frames, and then executes code.
func deepest(code ...api.Insn) api.Prog {
	return program(append([]api.Insn{
		address(1, siteSmall), load(2, 1, 4), add(2, 2, 1), store(1, 2, 4), constant(3, 200), binary(4, "<", 2, 3), branch(4, 8), call(5, fnMain),
	}, code...)...)
}

// filled leaves no block that could be allocated.
func filled(m *mach.Machine) {
	for e := api.OK; e == api.OK; {
		_, e = m.Mem().Alloc(siteHeap, 1, true)
	}
}

// A pointer that points to no function is told ahead of there being too many frames, and these ahead of there being no more blocks.
func TestOrderOfTheErrorsOfCalls(t *testing.T) {
	for _, c := range []struct {
		code []api.Insn
		want api.Errno
	}{
		{[]api.Insn{constant(9, 0), callAt(9, 9, 1, 2)}, api.ErrUndef},
		{[]api.Insn{address(9, siteF), callAt(9, 9, 1)}, api.ErrUndef},
		{[]api.Insn{address(9, siteF), callAt(9, 9, 1, 2)}, api.ErrRange},
		{[]api.Insn{address(9, siteG), callAt(9, 9)}, api.ErrRange},
		{[]api.Insn{address(9, siteF), call(9, fnF, 1, 2)}, api.ErrRange},
	} {
		for _, full := range []bool{false, true} {
			m := begun(t, deepest(c.code...), enough)
			stepped(t, m, 199*8+8)
			wantDepth(t, m, api.MaxFrames)
			if full {
				filled(m)
			}
			wantMoment(t, m, plain(9, c.want))
			wantMoment(t, m, plain(9, c.want))
		}
	}
	for want, last := range map[api.Errno]api.Insn{api.ErrUndef: callAt(9, 9, 1), api.ErrSize: callAt(9, 9, 1, 1)} {
		m := begun(t, program(address(9, siteF), last), enough)
		filled(m)
		stepped(t, m, 1)
		wantMoment(t, m, plain(1, want))
	}
	// g has no locals.
	m := begun(t, program(call(9, fnG)), enough)
	filled(m)
	wantMoment(t, m, api.Moment{Call: fnG})
}

func TestLocalsThatCannotBeAllocated(t *testing.T) {
	p := program(constant(1, 9), call(2, fnF, 1, 1))
	p.Sites[siteNone] = api.Site{Kind: api.SiteLocal, Size: 4097, Func: fnF}
	p.Fns[fnF].Locals = []int{siteTwo, siteTwo, siteNone, siteTwo}
	m := begun(t, p, enough)
	stepped(t, m, 1)
	for range 2 {
		wantMoment(t, m, plain(1, api.ErrSize))
		wantDepth(t, m, 1)
		wantRegister(t, m, 2, num(0))
		wantBlock(t, m.Mem(), firstFree, siteTwo, 8, true)
		wantBlock(t, m.Mem(), firstFree+1, siteTwo, 8, true)
		wantBlock(t, m.Mem(), firstFree+2, 0, 0, false)
	}
	p.Sites[siteNone].Size = -1
	wantCall(t, p, api.ErrSize)
	p.Sites[siteNone].Size = 4096
	wantCall(t, p, api.OK)
}

// wantCall compares the error of the second step, a call.
func wantCall(t *testing.T, p api.Prog, want api.Errno) {
	t.Helper()
	m := begun(t, p, enough)
	stepped(t, m, 1)
	if x := m.Step(); x.Err != want || (x.Call == -1) != (want != api.OK) {
		t.Errorf("%+v, not %d", x, want)
	}
}

func TestTooManyBlocksForACall(t *testing.T) {
	m := begun(t, recursive(100), enough)
	for {
		x := m.Step()
		if x.Err == api.OK {
			continue
		}
		if x != plain(1, api.ErrSize) {
			t.Errorf("%+v", x)
		}
		break
	}
	wantDepth(t, m, 19)
	wantBlock(t, m.Mem(), api.MaxBlocks, siteLocal, 16, true)
}

// The locals of one call are not those of another one of the same function.
func TestEachCallHasItsLocals(t *testing.T) {
	m := begun(t, program(address(1, siteLocal), call(2, fnMain)), enough)
	stepped(t, m, 3)
	wantRegister(t, m, 1, ptr(firstFree, 0))
	_, _, outer := m.Frame(0)
	if outer[1] != ptr(blockLo, 0) {
		t.Errorf("the outer one has %v", outer[1])
	}
	wantBlock(t, m.Mem(), blockLo, siteLocal, 16, true)
}

func TestFramesGoOnBehindTheirCalls(t *testing.T) {
	// main(n) calls itself as long as the global of 4 bytes, counted up, is below 3, and returns it.
	code := []api.Insn{
		address(1, siteSmall), load(2, 1, 4), add(2, 2, 1), store(1, 2, 4), constant(3, 3), binary(4, "<", 2, 3), branch(4, 9),
		call(5, fnMain), add(5, 5, 100), leave(5),
	}
	m := begun(t, program(code...), enough)
	calls, x := 0, api.Moment{}
	for !x.Done {
		if x = m.Step(); x.Err != api.OK {
			t.Fatal(x)
		}
		if x.Call == fnMain {
			calls++
		}
	}
	if calls != 2 {
		t.Errorf("%d calls", calls)
	}
	wantResult(t, m, num(200))
	wantMoment(t, m, ended)
}

func TestAllParams(t *testing.T) {
	p := program(constant(1, 1), constant(2, 2), constant(3, 3), address(9, siteG), callAt(4, 9, 3, 2, 1, 0, 3, 9), call(4, fnG, 1, 1, 2, 2, 3, 3))
	p.Fns[fnG] = api.Fn{Regs: 6, Params: 6, Code: []api.Insn{leave(5)}}
	m := begun(t, p, enough)
	stepped(t, m, 5)
	wantFrame(t, m, 1, fnG, 0, num(3), num(2), num(1), num(0), num(3), ptr(blockG, 0))
	stepped(t, m, 1)
	wantRegister(t, m, 4, ptr(blockG, 0))
	stepped(t, m, 1)
	wantFrame(t, m, 1, fnG, 0, num(1), num(1), num(2), num(2), num(3), num(3))
}
