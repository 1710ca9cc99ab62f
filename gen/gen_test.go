package gen_test

import (
	"math"
	"slices"
	"testing"

	"crosstree/api"
	"crosstree/check"
	"crosstree/gen"
	"crosstree/ir"
	"crosstree/lower"
	"crosstree/parse"
)

// P17.1 and P17.2, by hand.

var stop = api.Insn{Op: api.OpReturn, A: -1}

// constant is an instruction without constraints.
var constant = api.Insn{Op: api.OpConst, N: 9}

// The variables of the program of prog: 0 to 3 and 4 are the registers and the result of the function 0, 5 to 9 and 10 those of the function 1, 11 is the result of the function 2, 12, 13 and 14 are the registers and the result of the function 3.
const (
	first1  = 5
	result1 = 10
)

// The sites of that program.
const (
	siteGlobal = 4
	siteLocal  = 5
	siteHeap   = 6
)

// prog is a program of four functions, of 3, 2, 0 and 1 parameters, that has this instruction at 2 of the function 1.
func prog(i api.Insn) api.Prog {
	return api.Prog{
		Sites: []api.Site{{Kind: api.SiteFunc}, {Kind: api.SiteFunc, Func: 1}, {Kind: api.SiteFunc, Func: 2}, {Kind: api.SiteFunc, Func: 3}, {Kind: api.SiteGlobal, Func: -1}, {Kind: api.SiteLocal, Func: 1}, {Kind: api.SiteHeap, Func: -1, Size: -1}},
		Fns: []api.Fn{
			{Regs: 4, Params: 3, Code: []api.Insn{stop}},
			{Regs: 5, Params: 2, Locals: []int{siteLocal}, Code: []api.Insn{constant, constant, i, stop}},
			{Code: []api.Insn{stop}},
			{Regs: 2, Params: 1, Code: []api.Insn{stop}},
		},
	}
}

func same(c, d api.Con) bool {
	return c.Kind == d.Kind && c.A == d.A && c.B == d.B && c.N == d.N && c.Loc == d.Loc && slices.Equal(c.Args, d.Args) && c.Fn == d.Fn && c.Pc == d.Pc
}

func wantCons(t *testing.T, p api.Prog, want ...api.Con) {
	t.Helper()
	got := gen.Gen(p)
	if !slices.EqualFunc(got, want, same) {
		t.Errorf("Gen(%v) = %v, want %v", p, got, want)
	}
}

// wantInsn holds which constraints an instruction of the function 1 of prog has, given without their Fn and Pc.
func wantInsn(t *testing.T, i api.Insn, want ...api.Con) {
	t.Helper()
	p := prog(i)
	if fn, pc, e := ir.Check(p); e != api.OK {
		t.Errorf("%v isn't well-formed: %d at %d, %d", i, e, fn, pc)
	}
	wantAnyInsn(t, i, want...)
}

// wantAnyInsn is wantInsn, for an instruction that needn't be well-formed.
func wantAnyInsn(t *testing.T, i api.Insn, want ...api.Con) {
	t.Helper()
	for k := range want {
		want[k].Fn, want[k].Pc = 1, 2
	}
	wantCons(t, prog(i), want...)
}

func wantVars(t *testing.T, p api.Prog, first []int, all int) {
	t.Helper()
	if l, n := gen.Vars(p); !slices.Equal(l, first) || n != all {
		t.Errorf("Vars(%v) = %v, %d, want %v, %d", p, l, n, first, all)
	}
}

// program is that of a source.
func program(t *testing.T, source string) api.Prog {
	t.Helper()
	n, at, e := parse.Parse(source)
	if e != api.OK {
		t.Fatalf("%.200s: %d at %d", source, e, at)
	}
	n, recs, i, e := check.Check(n)
	if e != api.OK {
		t.Fatalf("%.200s: %d at the item %d", source, e, i)
	}
	p, e := lower.Lower(n, recs)
	if e != api.OK {
		t.Fatalf("%.200s: %d", source, e)
	}
	return p
}

func TestVars(t *testing.T) {
	wantVars(t, api.Prog{}, nil, 0)
	wantVars(t, prog(stop), []int{0, 5, 11, 12}, 15)
	for _, c := range []struct {
		regs, first []int
		all         int
	}{
		{[]int{0}, []int{0}, 1},
		{[]int{1}, []int{0}, 2},
		{[]int{4000}, []int{0}, 4001},
		{[]int{3, 4}, []int{0, 4}, 9},
		{[]int{0, 0, 0}, []int{0, 1, 2}, 3},
		{[]int{7, 0, 4000, 1}, []int{0, 8, 9, 4010}, 4012},
	} {
		p := api.Prog{Main: len(c.regs) - 1, Sites: make([]api.Site, 9)}
		for _, n := range c.regs {
			p.Fns = append(p.Fns, api.Fn{Regs: n, Params: min(n, 2), Locals: []int{3, 4}, Code: []api.Insn{constant, stop}})
		}
		wantVars(t, p, c.first, c.all)
	}
}

func TestAddresses(t *testing.T) {
	for k := range prog(stop).Sites {
		for _, r := range []int{0, 1, 4} {
			wantInsn(t, api.Insn{Op: api.OpAddr, A: r, B: k}, api.Con{Kind: api.ConBase, A: first1 + r, Loc: api.Loc{Site: k}})
		}
	}
	// C, W, N, Sign and Args are nothing to it.
	wantInsn(t, api.Insn{Op: api.OpAddr, A: 2, B: 3, C: 4, W: 8, N: 16, Sign: "+", Args: []int{1}}, api.Con{Kind: api.ConBase, A: 7, Loc: api.Loc{Site: 3}})
}

func TestMallocs(t *testing.T) {
	for _, r := range []int{0, 3, 4} {
		wantInsn(t, api.Insn{Op: api.OpMalloc, A: r, B: 2, N: siteHeap}, api.Con{Kind: api.ConBase, A: first1 + r, Loc: api.Loc{Site: siteHeap}})
	}
}

func TestAdd(t *testing.T) {
	for _, n := range []int{-4096, -4095, -8, -1, 0, 1, 8, 4095, 4096} {
		wantInsn(t, api.Insn{Op: api.OpAdd, A: 3, B: 1, C: 4, W: 4, N: int64(n), Sign: "-"}, api.Con{Kind: api.ConAdd, A: 8, B: 6, N: n})
	}
	for _, n := range []int64{math.MinInt64, -1 << 32, -4098, -4097, 4097, 4098, 5000, 1 << 32, 1<<32 + 8, math.MaxInt64} {
		wantInsn(t, api.Insn{Op: api.OpAdd, A: 3, B: 1, N: n})
	}
	wantInsn(t, api.Insn{Op: api.OpAdd, A: 2, B: 2, N: 4}, api.Con{Kind: api.ConAdd, A: 7, B: 7, N: 4})
}

func TestIndex(t *testing.T) {
	for _, n := range []int{0, 1, 2, 8, 12, 4095, 4096} {
		wantInsn(t, api.Insn{Op: api.OpIndex, A: 4, B: 0, C: 2, N: int64(n)}, api.Con{Kind: api.ConAny, A: 9, B: 5, N: n})
	}
	for _, n := range []int64{math.MinInt64, -1 << 32, -4097, -4096, -8, -1, 4097, 5000, 1 << 32, 1<<32 + 8, math.MaxInt64} {
		wantInsn(t, api.Insn{Op: api.OpIndex, A: 4, B: 0, C: 2, N: n})
	}
}

func TestBin(t *testing.T) {
	ofFirst, ofSecond := api.Con{Kind: api.ConAny, A: 5, B: 8, N: 1}, api.Con{Kind: api.ConAny, A: 5, B: 7, N: 1}
	wantInsn(t, api.Insn{Op: api.OpBin, Sign: "+", A: 0, B: 3, C: 2, N: 16, W: 4}, ofFirst, ofSecond)
	wantInsn(t, api.Insn{Op: api.OpBin, Sign: "-", A: 0, B: 3, C: 2, N: 16, W: 4}, ofFirst)
	wantInsn(t, api.Insn{Op: api.OpBin, Sign: "+", A: 0, B: 3, C: 3}, ofFirst, ofFirst)
	wantInsn(t, api.Insn{Op: api.OpBin, Sign: "-", A: 0, B: 3, C: 3}, ofFirst)
	for _, s := range []string{"*", "/", "%", "&", "|", "^", "<<", ">>", "==", "!=", "<", "<=", ">", ">="} {
		wantInsn(t, api.Insn{Op: api.OpBin, Sign: s, A: 0, B: 3, C: 2})
	}
	for _, s := range []string{"", "++", "--", "+-", " +", "~", "!"} {
		wantAnyInsn(t, api.Insn{Op: api.OpBin, Sign: s, A: 0, B: 3, C: 2})
	}
}

func TestWidths(t *testing.T) {
	for _, w := range []int{1, 8} {
		wantInsn(t, api.Insn{Op: api.OpFit, A: 1, B: 4, C: 3, W: w, N: 7}, api.Con{Kind: api.ConCopy, A: 6, B: 9})
		wantInsn(t, api.Insn{Op: api.OpLoad, A: 1, B: 4, C: 3, W: w, N: 7}, api.Con{Kind: api.ConLoad, A: 6, B: 9, N: w})
		wantInsn(t, api.Insn{Op: api.OpStore, A: 1, B: 4, C: 3, W: w, N: 7}, api.Con{Kind: api.ConStore, A: 6, B: 9, N: w})
	}
	for _, op := range []int{api.OpFit, api.OpLoad, api.OpStore} {
		wantInsn(t, api.Insn{Op: op, A: 1, B: 4, C: 3, W: 4})
		for _, w := range []int{math.MinInt, -8, -1, 0, 2, 3, 5, 6, 7, 9, 16, math.MaxInt} {
			wantAnyInsn(t, api.Insn{Op: op, A: 1, B: 4, C: 3, W: w})
		}
	}
}

func TestCopiesAndMoves(t *testing.T) {
	for _, n := range []int{0, 1, 4, 24, 4095, 4096} {
		wantInsn(t, api.Insn{Op: api.OpCopy, A: 3, B: 2, C: 1, N: int64(n)}, api.Con{Kind: api.ConMove, A: 8, B: 7, N: n})
	}
	for _, n := range []int64{-5, 0, 8, 5000} {
		wantInsn(t, api.Insn{Op: api.OpMove, A: 3, B: 2, C: 1, N: n}, api.Con{Kind: api.ConMove, A: 8, B: 7, N: -1})
	}
}

func copied(a, b int) api.Con {
	return api.Con{Kind: api.ConCopy, A: a, B: b}
}

func TestCalls(t *testing.T) {
	call := func(a, n int, args ...int) api.Insn {
		return api.Insn{Op: api.OpCall, A: a, B: 3, C: 3, W: 8, N: int64(n), Args: args}
	}
	// Of an earlier function, of the function itself, and of later ones.
	wantInsn(t, call(2, 0, 4, 0, 1), copied(0, 9), copied(1, 5), copied(2, 6), copied(7, 4))
	wantInsn(t, call(0, 0, 3, 3, 3), copied(0, 8), copied(1, 8), copied(2, 8), copied(5, 4))
	wantInsn(t, call(1, 1, 1, 0), copied(5, 6), copied(6, 5), copied(6, result1))
	wantInsn(t, call(4, 2), copied(9, 11))
	wantInsn(t, call(4, 3, 4), copied(12, 9), copied(9, 14))
}

func TestCallsOfNoFunction(t *testing.T) {
	for _, n := range []int64{math.MinInt64, -1, 4, 5, 1 << 32, math.MaxInt64} {
		wantAnyInsn(t, api.Insn{Op: api.OpCall, A: 1, N: n, Args: []int{2}})
	}
}

func TestCallsOfPointers(t *testing.T) {
	for _, args := range [][]int{{}, {0}, {4, 4}, {4, 3, 2, 1, 0}, {0, 2, 4, 0, 2, 4}} {
		var want []int
		for _, r := range args {
			want = append(want, first1+r)
		}
		wantInsn(t, api.Insn{Op: api.OpCallP, A: 3, B: 2, C: 1, W: 8, N: 2, Args: args}, api.Con{Kind: api.ConCall, A: 8, B: 7, Args: want})
	}
}

func TestReturns(t *testing.T) {
	for _, r := range []int{0, 1, 4} {
		wantInsn(t, api.Insn{Op: api.OpReturn, A: r, B: 2, C: 3, W: 8, N: 5}, copied(result1, first1+r))
	}
	wantInsn(t, api.Insn{Op: api.OpReturn, A: -1, B: 2})
}

func TestInstructionsWithoutConstraints(t *testing.T) {
	for _, op := range []int{api.OpConst, api.OpUn, api.OpFill, api.OpFree, api.OpJump, api.OpIf, api.OpInput} {
		for _, w := range []int{1, 4, 8} {
			wantInsn(t, api.Insn{Op: op, A: 1, B: 2, C: 3, W: w, N: 2, Sign: "-", Args: []int{1, 2}})
		}
	}
	for _, op := range []int{math.MinInt, -20, -1, 0, 21, 22, 99, math.MaxInt} {
		wantAnyInsn(t, api.Insn{Op: op, A: 1, B: 2, C: 3, W: 8, N: 2, Sign: "+", Args: []int{1, 2}})
	}
}

// Function by function and instruction by instruction, also if one and the same stands there again.
func TestOrder(t *testing.T) {
	add, sum := api.Insn{Op: api.OpAdd, A: 1, B: 0, N: 8}, api.Insn{Op: api.OpBin, Sign: "+", A: 1, B: 0, C: 1}
	p := prog(stop)
	p.Main = 2
	p.Fns[0].Code = []api.Insn{constant, add, sum, add, {Op: api.OpReturn, A: 3}}
	p.Fns[1].Code = []api.Insn{{Op: api.OpCall, A: 0, N: 3, Args: []int{1}}, sum, {Op: api.OpJump}}
	p.Fns[3].Code = []api.Insn{{Op: api.OpAddr, A: 1, B: siteGlobal}, stop, add, {Op: api.OpReturn}}
	wantCons(t, p,
		api.Con{Kind: api.ConAdd, A: 1, B: 0, N: 8, Pc: 1},
		api.Con{Kind: api.ConAny, A: 1, B: 0, N: 1, Pc: 2},
		api.Con{Kind: api.ConAny, A: 1, B: 1, N: 1, Pc: 2},
		api.Con{Kind: api.ConAdd, A: 1, B: 0, N: 8, Pc: 3},
		api.Con{Kind: api.ConCopy, A: 4, B: 3, Pc: 4},
		api.Con{Kind: api.ConCopy, A: 12, B: 6, Fn: 1},
		api.Con{Kind: api.ConCopy, A: 5, B: 14, Fn: 1},
		api.Con{Kind: api.ConAny, A: 6, B: 5, N: 1, Fn: 1, Pc: 1},
		api.Con{Kind: api.ConAny, A: 6, B: 6, N: 1, Fn: 1, Pc: 1},
		api.Con{Kind: api.ConBase, A: 13, Loc: api.Loc{Site: siteGlobal}, Fn: 3},
		api.Con{Kind: api.ConAdd, A: 13, B: 12, N: 8, Fn: 3, Pc: 2},
		api.Con{Kind: api.ConCopy, A: 14, B: 12, Fn: 3, Pc: 3},
	)
}

func TestProgramsWithoutConstraints(t *testing.T) {
	for _, p := range []api.Prog{{}, {Fns: []api.Fn{}, Sites: []api.Site{}}, {Fns: []api.Fn{{}, {Code: []api.Insn{}}}}, prog(stop)} {
		wantCons(t, p)
	}
}

func TestExampleOfTheChapter(t *testing.T) {
	// OpAddr 0 of p, OpAddr 1 of g, OpStore, OpAddr 2 of p, OpLoad 3, OpLoad 4 with W 4, OpFit 5 with W 4, OpReturn.
	p := program(t, "int g; int main() { int *p = &g; return *p; }")
	wantVars(t, p, []int{0}, 7)
	wantCons(t, p,
		api.Con{Kind: api.ConBase, A: 0, Loc: api.Loc{Site: 2}},
		api.Con{Kind: api.ConBase, A: 1, Loc: api.Loc{Site: 1}, Pc: 1},
		api.Con{Kind: api.ConStore, A: 0, B: 1, N: 8, Pc: 2},
		api.Con{Kind: api.ConBase, A: 2, Loc: api.Loc{Site: 2}, Pc: 3},
		api.Con{Kind: api.ConLoad, A: 3, B: 2, N: 8, Pc: 4},
		api.Con{Kind: api.ConCopy, A: 6, B: 5, Pc: 7},
	)
}
