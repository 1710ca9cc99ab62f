package mach_test

import (
	"math"
	"testing"

	"crosstree/api"
)

// P11.3: what each operation does, but for calls.

const far = 1 << 62

// wantValue executes code whose last instruction writes the register 9.
func wantValue(t *testing.T, want api.Value, code ...api.Insn) {
	t.Helper()
	m := begun(t, program(code...), enough)
	for k := range code {
		if x := m.Step(); x != plain(k, api.OK) {
			t.Errorf("%v: step %d: %+v", code, k, x)
			return
		}
	}
	wantRegister(t, m, 9, want)
	if _, pc, _ := m.Frame(0); pc != len(code) {
		t.Errorf("%v leads to %d", code, pc)
	}
}

// wantUndef executes code of which the last instruction alone has an error, and holds that it has no effect.
func wantUndef(t *testing.T, code ...api.Insn) {
	t.Helper()
	wantStop(t, api.ErrUndef, enough, code...)
}

func wantStop(t *testing.T, want api.Errno, s api.Script, code ...api.Insn) {
	t.Helper()
	last := len(code) - 1
	m := begun(t, program(code...), s)
	stepped(t, m, last)
	before := seen(m)
	if x := m.Step(); x != plain(last, want) {
		t.Errorf("%v: %+v, not %d", code, x, want)
	}
	wantSeen(t, m, before)
}

func TestConst(t *testing.T) {
	for _, n := range []int64{0, 1, -1, math.MaxInt64, math.MinInt64} {
		wantValue(t, num(n), constant(9, 5), constant(9, n))
	}
}

func TestInput(t *testing.T) {
	read := func(a int) api.Insn { return op(api.OpInput, a, 0, 0) }
	m := begun(t, program(read(1), read(2), read(3), read(4), constant(5, 1), read(5)), api.Script{Input: []int64{8, -3, math.MinInt64}, Fuel: 9})
	stepped(t, m, 6)
	for r, n := range []int64{0, 8, -3, math.MinInt64, 0, 0} {
		wantRegister(t, m, r, num(n))
	}
	m = begun(t, program(read(1)), api.Script{Fuel: 9})
	stepped(t, m, 1)
	wantRegister(t, m, 1, num(0))
}

func TestAddr(t *testing.T) {
	for site, block := range map[int]int{siteMain: blockMain, siteF: blockF, siteG: blockG, siteBig: blockBig, siteSmall: blockSmall, siteLocal: blockLo} {
		wantValue(t, ptr(block, 0), address(9, site))
	}
	wantUndef(t, address(9, siteHeap))
	wantUndef(t, address(9, siteTwo))
	p := program(address(9, siteNone))
	for kind, want := range map[int]api.Errno{5: api.ErrUndef, -1: api.ErrUndef, math.MaxInt: api.ErrUndef, api.SiteHeap: api.ErrUndef, api.SiteLocal: api.ErrUndef, api.SiteGlobal: api.OK} {
		p.Sites[siteNone].Kind = kind
		wantMoment(t, begun(t, p, enough), plain(0, want))
	}
}

func TestAddrOfALocalThatIsThereTwice(t *testing.T) {
	p := program(address(8, siteLocal), address(9, siteNone))
	p.Sites[siteNone] = api.Site{Kind: api.SiteLocal, Size: 9}
	p.Fns[fnMain].Locals = []int{siteNone, siteLocal, siteNone, siteLocal}
	m := begun(t, p, enough)
	stepped(t, m, 2)
	wantRegister(t, m, 8, ptr(7, 0))
	wantRegister(t, m, 9, ptr(6, 0))
	for k, size := range []int{9, 16, 9, 16} {
		wantBlock(t, m.Mem(), 6+k, p.Fns[fnMain].Locals[k], size, true)
	}
	stepped(t, m, 1)
	for k := range 4 {
		if _, _, live := m.Mem().Block(6 + k); live {
			t.Errorf("the block %d outlives main", 6+k)
		}
	}
}

// A part is stored and loaded as the byte of a pointer: registers 1 and 2 become a pointer to 32 bytes and its part 3.
func aPart() []api.Insn {
	return []api.Insn{address(1, siteBig), store(1, 1, 8), add(2, 1, 2), load(2, 2, 1)}
}

func withPart(code ...api.Insn) []api.Insn { return append(aPart(), code...) }

func TestPartsAreLoaded(t *testing.T) {
	m := after(t, aPart()...)
	wantRegister(t, m, 2, part(blockBig, 0, 3))
}

func TestAdd(t *testing.T) {
	for _, c := range []struct{ n, more, want int64 }{{5, 3, 8}, {5, -9, -4}, {math.MaxInt64, 1, math.MinInt64}, {0, math.MinInt64, math.MinInt64}} {
		wantValue(t, num(c.want), constant(1, c.n), add(9, 1, c.more))
	}
	for _, n := range []int64{0, 1, 31, 32} {
		wantValue(t, ptr(blockBig, n), address(1, siteBig), add(9, 1, n))
	}
	for _, n := range []int64{-1, 33, math.MaxInt64, math.MinInt64} {
		wantUndef(t, address(1, siteBig), add(9, 1, n))
	}
	wantUndef(t, withPart(add(9, 2, 0))...)
}

func TestIndexOfPointers(t *testing.T) {
	at := func(from, i, n int64) []api.Insn {
		return []api.Insn{address(1, siteBig), add(1, 1, from), constant(2, i), index(9, 1, 2, n)}
	}
	for _, c := range []struct{ from, i, n, want int64 }{{0, 0, 4, 0}, {0, 3, 4, 12}, {0, 8, 4, 32}, {32, -8, 4, 0}, {20, -1, 20, 0}, {4, 4096, 0, 4}, {4, -4096, 0, 4}, {4, 0, 4096, 4}, {31, 1, 1, 32}} {
		wantValue(t, ptr(blockBig, c.want), at(c.from, c.i, c.n)...)
	}
	for _, c := range []struct{ from, i, n int64 }{{0, 9, 4}, {0, -1, 1}, {32, 1, 1}, {4, 4097, 0}, {4, -4097, 0}, {4, 0, 4097}, {4, 0, -1}, {4, -1, -1}, {4, 1 << 62, 4}, {4, math.MinInt64, 0}, {4, 0, math.MinInt64}} {
		wantUndef(t, at(c.from, c.i, c.n)...)
	}
	p := program(address(1, siteSmall), constant(2, 4096), index(9, 1, 2, 1))
	p.Sites[siteSmall].Size = 4096
	m := begun(t, p, enough)
	stepped(t, m, 3)
	wantRegister(t, m, 9, ptr(blockSmall, 4096))
}

func TestIndexOfNumbers(t *testing.T) {
	for _, c := range []struct{ b, i, n, want int64 }{{5, 3, 4, 17}, {5, 5000, -7, 5 - 35000}, {1, 1 << 62, 4, 1}, {math.MaxInt64, 1, 1, math.MinInt64}, {0, 2, math.MinInt64, 0}} {
		wantValue(t, num(c.want), constant(1, c.b), constant(2, c.i), index(9, 1, 2, c.n))
	}
}

func TestIndexOfOtherValues(t *testing.T) {
	wantUndef(t, withPart(index(9, 2, 0, 1))...)
	wantUndef(t, withPart(index(9, 1, 2, 0))...)
	wantUndef(t, withPart(index(9, 0, 2, 1))...)
	wantUndef(t, withPart(index(9, 1, 1, 1))...)
	wantUndef(t, withPart(index(9, 0, 1, 1))...)
	wantUndef(t, withPart(index(9, 2, 2, 1))...)
}

func TestBinOfAPointerAndADistance(t *testing.T) {
	with := func(from, n int64, last api.Insn) []api.Insn {
		return []api.Insn{address(1, siteBig), add(1, 1, from), constant(2, n), last}
	}
	for _, c := range []struct{ from, n int64 }{{0, 0}, {0, 32}, {32, -32}, {5, 3}, {5, -5}} {
		wantValue(t, ptr(blockBig, c.from+c.n), with(c.from, c.n, binary(9, "+", 1, 2))...)
		wantValue(t, ptr(blockBig, c.from+c.n), with(c.from, c.n, binary(9, "+", 2, 1))...)
		wantValue(t, ptr(blockBig, c.from+c.n), with(c.from, -c.n, binary(9, "-", 1, 2))...)
	}
	for _, c := range []struct{ from, n int64 }{{0, -1}, {0, 33}, {32, 1}, {5, -6}, {0, far}, {32, -far}, {5, far + 1}, {5, -far - 1}, {5, math.MinInt64}, {5, math.MaxInt64}} {
		wantUndef(t, with(c.from, c.n, binary(9, "+", 1, 2))...)
		wantUndef(t, with(c.from, c.n, binary(9, "+", 2, 1))...)
		wantUndef(t, with(c.from, -c.n, binary(9, "-", 1, 2))...)
		wantUndef(t, with(c.from, c.n, binary(9, "-", 2, 1))...)
		wantUndef(t, with(c.from, c.n, binary(9, "*", 1, 2))...)
	}
}

func TestBinIsBin(t *testing.T) {
	wantValue(t, num(-12), constant(1, 4), constant(2, -3), binary(9, "*", 1, 2))
	wantValue(t, num(7), constant(1, 4), constant(2, -3), binary(9, "-", 1, 2))
	wantValue(t, num(1), constant(1, 4), constant(2, -3), binary(9, "+", 1, 2))
	wantValue(t, num(-8), address(1, siteBig), add(2, 1, 8), binary(9, "-", 1, 2))
	wantValue(t, num(1), address(1, siteBig), add(2, 1, 8), binary(9, "<", 1, 2))
	wantValue(t, num(0), address(1, siteBig), address(2, siteSmall), binary(9, "==", 1, 2))
	wantValue(t, num(1), address(1, siteBig), binary(9, "!=", 0, 1))
	wantUndef(t, address(1, siteBig), binary(9, "+", 1, 1))
	wantUndef(t, address(1, siteBig), address(2, siteSmall), binary(9, "-", 1, 2))
	wantUndef(t, address(1, siteBig), binary(9, "<", 0, 1))
	wantUndef(t, constant(1, 4), binary(9, "%", 1, 0))
	for _, sign := range []string{"+", "-", "=="} {
		wantUndef(t, withPart(binary(9, sign, 2, 0))...)
		wantUndef(t, withPart(binary(9, sign, 0, 2))...)
		wantUndef(t, withPart(binary(9, sign, 1, 2))...)
		wantUndef(t, withPart(binary(9, sign, 2, 1))...)
		wantUndef(t, withPart(binary(9, sign, 2, 2))...)
	}
}

func TestUnAndFitAreUnAndFit(t *testing.T) {
	un := func(sign string) api.Insn { return api.Insn{Op: api.OpUn, A: 9, B: 2, C: 1, Sign: sign} }
	fit := func(w int) api.Insn { return api.Insn{Op: api.OpFit, A: 9, B: 2, C: 1, W: w} }
	wantValue(t, num(-300), constant(2, 300), un("-"))
	wantValue(t, num(-301), constant(2, 300), un("~"))
	wantUndef(t, address(2, siteBig), un("-"))
	wantUndef(t, withPart(un("~"))...)
	wantValue(t, num(44), constant(2, 300), fit(1))
	wantValue(t, num(-1), constant(2, 1<<32-1), fit(4))
	wantValue(t, num(1<<32-1), constant(2, 1<<32-1), fit(8))
	wantValue(t, ptr(blockBig, 0), address(2, siteBig), fit(8))
	wantUndef(t, address(2, siteBig), fit(4))
	wantUndef(t, address(2, siteBig), fit(1))
	wantValue(t, part(blockBig, 0, 3), withPart(fit(1))...)
	wantValue(t, part(blockBig, 0, 3), withPart(fit(8))...)
	wantUndef(t, withPart(fit(4))...)
}

func TestLoadAndStore(t *testing.T) {
	for w, want := range map[int]int64{1: 0xfe, 4: 0x7c7d7efe, 8: math.MinInt64 + 0x010203047c7d7efe} {
		wantValue(t, num(want), address(1, siteBig), constant(2, math.MinInt64+0x010203047c7d7efe), store(1, 2, w), load(9, 1, w))
		wantUndef(t, address(1, siteLocal), load(9, 1, w))
		wantUndef(t, address(1, siteBig), add(1, 1, int64(33-w)), load(9, 1, w))
		wantUndef(t, address(1, siteBig), add(1, 1, int64(33-w)), store(1, 2, w))
		wantUndef(t, constant(1, 8), load(9, 1, w))
		wantUndef(t, constant(1, 8), store(1, 0, w))
		wantUndef(t, withPart(load(9, 2, w))...)
		wantUndef(t, withPart(store(2, 1, w))...)
	}
	wantValue(t, ptr(blockBig, 7), address(1, siteBig), add(2, 1, 7), store(1, 2, 8), load(9, 1, 8))
	wantUndef(t, address(1, siteBig), store(1, 1, 4))
	wantUndef(t, address(1, siteBig), store(1, 1, 1))
	wantUndef(t, withPart(store(1, 2, 8))...)
	wantUndef(t, withPart(load(9, 1, 4))...)
	wantUndef(t, address(1, siteF), constant(2, 4), store(1, 2, 4))
	wantValue(t, num(0), address(1, siteF), load(9, 1, 1))
}

// numbered makes the first bytes of the global of 32 bytes 1 to 4 and register 1 a pointer to it.
func numbered(code ...api.Insn) []api.Insn {
	return append([]api.Insn{address(1, siteBig), constant(2, 0x04030201), store(1, 2, 4)}, code...)
}

func TestCopy(t *testing.T) {
	copies := func(a, b int, n int64) api.Insn { return api.Insn{Op: api.OpCopy, A: a, B: b, N: n} }
	wantValue(t, num(0x02010201), numbered(add(3, 1, 2), copies(3, 1, 2), load(9, 1, 4))...)
	wantValue(t, num(0x00030201), numbered(add(3, 1, 1), add(4, 1, 4), copies(3, 1, 3), load(9, 3, 4))...)
	wantValue(t, num(0x04030201), numbered(add(3, 1, 28), copies(3, 1, 0), load(9, 1, 4))...)
	wantUndef(t, numbered(add(3, 1, 28), copies(3, 1, 5))...)
	wantUndef(t, numbered(add(3, 1, 28), copies(1, 3, 5))...)
	wantUndef(t, numbered(copies(1, 0, 0))...)
	wantUndef(t, numbered(copies(0, 1, 0))...)
	wantUndef(t, withPart(copies(1, 2, 0))...)
	wantUndef(t, numbered(copies(1, 1, 4096))...)
}

func TestMove(t *testing.T) {
	wantValue(t, num(0x02010201), numbered(add(3, 1, 2), constant(4, 2), op(api.OpMove, 3, 1, 4), load(9, 1, 4))...)
	wantValue(t, num(0x04030201), numbered(add(3, 1, 32), op(api.OpMove, 3, 1, 0), load(9, 1, 4))...)
	for _, n := range []int64{-1, 33, 4096, 4097, math.MinInt64, math.MaxInt64} {
		wantUndef(t, numbered(constant(4, n), op(api.OpMove, 1, 1, 4))...)
	}
	wantUndef(t, numbered(op(api.OpMove, 1, 0, 0))...)
	wantUndef(t, numbered(op(api.OpMove, 0, 1, 0))...)
	wantUndef(t, numbered(op(api.OpMove, 1, 1, 1))...)
	wantUndef(t, withPart(op(api.OpMove, 1, 1, 2))...)
}

func TestFill(t *testing.T) {
	wantValue(t, num(0x0403fefe), numbered(constant(3, 0x1fe), constant(4, 2), op(api.OpFill, 1, 3, 4), load(9, 1, 4))...)
	wantValue(t, num(0x04030201), numbered(constant(3, 5), op(api.OpFill, 1, 3, 0), load(9, 1, 4))...)
	for _, n := range []int64{-1, 33, 4097, math.MinInt64} {
		wantUndef(t, numbered(constant(4, n), op(api.OpFill, 1, 0, 4))...)
	}
	wantUndef(t, numbered(op(api.OpFill, 0, 0, 0))...)
	wantUndef(t, numbered(op(api.OpFill, 1, 1, 0))...)
	wantUndef(t, numbered(op(api.OpFill, 1, 0, 1))...)
	wantUndef(t, withPart(op(api.OpFill, 1, 2, 0))...)
	wantUndef(t, withPart(op(api.OpFill, 1, 0, 2))...)
}

func TestMalloc(t *testing.T) {
	for _, n := range []int64{0, 1, 8, 4095, 4096} {
		m := after(t, constant(1, n), malloc(9, 1))
		wantRegister(t, m, 9, ptr(firstFree, 0))
		wantBlock(t, m.Mem(), firstFree, siteHeap, int(n), true)
		wantKind(t, m.Mem(), firstFree, 0)
	}
	for _, n := range []int64{-1, 4097, math.MinInt64, math.MaxInt64, 1<<32 + 8, -1<<63 + 8} {
		m := after(t, constant(1, n), constant(9, 5), malloc(9, 1))
		wantRegister(t, m, 9, num(0))
		wantBlock(t, m.Mem(), firstFree, 0, 0, false)
	}
	m := after(t, constant(1, 3), api.Insn{Op: api.OpMalloc, A: 1, B: 1, N: siteOther})
	wantRegister(t, m, 1, ptr(firstFree, 0))
	wantBlock(t, m.Mem(), firstFree, siteOther, 3, true)
	wantUndef(t, address(1, siteBig), malloc(9, 1))
	wantUndef(t, withPart(malloc(9, 2))...)
}

func TestFails(t *testing.T) {
	// Those of a size that can't be count too.
	code := []api.Insn{constant(1, 8), constant(2, -1), malloc(3, 1), malloc(4, 1), malloc(5, 2), malloc(6, 1), malloc(7, 1), malloc(8, 1)}
	m := begun(t, program(code...), api.Script{Fails: []bool{true, false, false, true}, Fuel: 50})
	stepped(t, m, len(code))
	for r, v := range map[int]api.Value{3: num(0), 4: ptr(7, 0), 5: num(0), 6: num(0), 7: ptr(8, 0), 8: ptr(9, 0)} {
		wantRegister(t, m, r, v)
	}
	m = begun(t, program(code...), api.Script{Fails: []bool{false, false, true, false, true}, Fuel: 50})
	stepped(t, m, len(code))
	for r, v := range map[int]api.Value{3: ptr(7, 0), 4: ptr(8, 0), 5: num(0), 6: ptr(9, 0), 7: num(0), 8: ptr(10, 0)} {
		wantRegister(t, m, r, v)
	}
}

func TestMallocWithoutBlocks(t *testing.T) {
	m := begun(t, program(constant(1, 1), constant(9, 5), malloc(9, 1), branch(9, 5), jump(1), constant(2, 3)), enough)
	count := 0
	for {
		x := m.Step()
		if x.Err != api.OK {
			t.Fatal(x)
		}
		if x.Pc == 2 {
			count++
		}
		if x.Pc == 5 {
			break
		}
	}
	wantRegister(t, m, 9, num(0))
	if count != api.MaxBlocks-firstFree+2 {
		t.Errorf("%d allocations", count)
	}
	wantBlock(t, m.Mem(), api.MaxBlocks, siteHeap, 1, true)
}

func TestFree(t *testing.T) {
	free := func(a int) api.Insn { return op(api.OpFree, a, 0, 0) }
	m := after(t, constant(1, 8), malloc(2, 1), malloc(3, 1), free(2), free(0))
	wantBlock(t, m.Mem(), firstFree, siteHeap, 8, false)
	wantBlock(t, m.Mem(), firstFree+1, siteHeap, 8, true)
	wantRegister(t, m, 2, ptr(firstFree, 0))
	stepped(t, m, 1)
	wantBlock(t, m.Mem(), firstFree+1, siteHeap, 8, true)
	after(t, malloc(2, 0), free(2))
	wantUndef(t, malloc(2, 0), free(2), free(2))
	wantUndef(t, constant(1, 8), malloc(2, 1), add(3, 2, 1), free(3))
	wantUndef(t, constant(1, 8), malloc(2, 1), free(2), load(9, 2, 1))
	wantUndef(t, constant(1, 8), free(1))
	for _, site := range []int{siteMain, siteBig, siteLocal} {
		wantUndef(t, address(1, site), free(1))
	}
	wantUndef(t, withPart(free(2))...)
	// The first part of a pointer to it is no pointer to it.
	wantUndef(t, constant(1, 8), malloc(2, 1), store(2, 2, 8), load(3, 2, 1), free(3))
}

func TestIfAndJump(t *testing.T) {
	for _, n := range []int64{1, -1, 1 << 32, math.MinInt64} {
		wantFrameAfter(t, 2, constant(1, n), branch(1, 0))
		wantFrameAfter(t, 2, constant(1, n), branch(1, 2))
	}
	wantFrameAfter(t, 0, constant(1, 0), branch(1, 0))
	wantFrameAfter(t, 2, constant(1, 0), branch(1, 2))
	wantFrameAfter(t, 1, constant(1, 0), branch(1, 1))
	wantFrameAfter(t, 2, address(1, siteBig), branch(1, 0))
	wantFrameAfter(t, 2, constant(1, 0), jump(2))
	wantFrameAfter(t, 0, constant(1, 0), jump(0))
	wantFrameAfter(t, 1, constant(1, 0), jump(1))
	wantUndef(t, withPart(branch(2, 0))...)
}

// wantFrameAfter compares where main goes on.
func wantFrameAfter(t *testing.T, pc int, code ...api.Insn) {
	t.Helper()
	if _, at, _ := after(t, code...).Frame(0); at != pc {
		t.Errorf("%v leads to %d, not %d", code, at, pc)
	}
}
