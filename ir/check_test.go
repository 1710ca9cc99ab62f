package ir_test

import (
	"math"
	"testing"

	"crosstree/api"
	"crosstree/ir"
)

// P8.2: Check.

var stop = api.Insn{Op: api.OpReturn, A: -1}

// sites are those of three functions, then one of each kind, and two of kinds that there aren't.
func sites() []api.Site {
	return []api.Site{
		{Kind: api.SiteFunc, Name: "main"}, {Kind: api.SiteFunc, Name: "f", Func: 1}, {Kind: api.SiteFunc, Name: "g", Func: 2},
		{Kind: api.SiteGlobal, Size: 4, Func: -1},
		{Kind: api.SiteLocal, Size: 4}, {Kind: api.SiteLocal, Size: 4, Func: 1}, {Kind: api.SiteLocal, Size: 4, Func: 2},
		{Kind: api.SiteHeap, Size: -1, Func: -1},
		{Kind: 0}, {Kind: 99}, {Kind: -1},
	}
}

const (
	siteGlobal = 3
	siteLocal  = 4
	siteHeap   = 7
	siteZero   = 8
	siteOdd    = 9
	siteCount  = 11
)

// prog is a program of three functions without, with one and with two parameters; main, the first, has the code, and a return behind it.
func prog(code ...api.Insn) api.Prog {
	return api.Prog{Sites: sites(), Fns: []api.Fn{
		{Name: "main", Regs: 5, Locals: []int{siteLocal}, Code: append(code, stop)},
		{Name: "f", Regs: 1, Params: 1, Locals: []int{siteLocal + 1}, Code: []api.Insn{stop}},
		{Name: "g", Regs: 2, Params: 2, Locals: []int{siteLocal + 2}, Code: []api.Insn{stop}},
	}}
}

func wantCheck(t *testing.T, p api.Prog, n, pc int, e api.Errno) {
	t.Helper()
	if m, at, err := ir.Check(p); m != n || at != pc || err != e {
		t.Errorf("Check = %d, %d, %d, want %d, %d, %d", m, at, err, n, pc, e)
	}
}

// wantInsn checks an instruction at the index 0, and at the index 2.
func wantInsn(t *testing.T, i api.Insn, e api.Errno) {
	t.Helper()
	at := 0
	if e != api.OK {
		at = 2
	}
	set := api.Insn{Op: api.OpConst}
	if m, pc, err := ir.Check(prog(i, set)); m != 0 || pc != 0 || err != e {
		t.Errorf("Check of %v at 0: %d, %d, %d, want %d", i, m, pc, err, e)
	}
	if m, pc, err := ir.Check(prog(set, set, i)); m != 0 || pc != at || err != e {
		t.Errorf("Check of %v at 2: %d, %d, %d, want %d", i, m, pc, err, e)
	}
}

// right holds, for each Op, a right instruction; their registers are 1, 2, 3 and 4.
func right(op int) api.Insn {
	i := api.Insn{Op: op, A: 1, B: 2, C: 3, W: 8, Sign: "-", Args: []int{4}}
	switch op {
	case api.OpAddr:
		i.B = siteGlobal
	case api.OpMalloc:
		i.N = siteHeap
	case api.OpCall, api.OpJump, api.OpIf:
		i.N = 1
	}
	return i
}

func TestRightInstructions(t *testing.T) {
	for op := api.OpConst; op <= api.OpInput; op++ {
		wantInsn(t, right(op), api.OK)
	}
}

func TestOpsThatThereAreNot(t *testing.T) {
	for _, op := range otherOps {
		wantInsn(t, api.Insn{Op: op}, api.ErrArg)
		wantInsn(t, api.Insn{Op: op, A: -1, B: 99, N: -1}, api.ErrArg)
		wantCheck(t, api.Prog{Sites: sites()[:1], Fns: []api.Fn{{Code: []api.Insn{{Op: op}}}}}, 0, 0, api.ErrArg)
	}
}

// uses tells which of A, B, C and Args are registers that are read or written.
var uses = map[int]string{
	api.OpConst: "A", api.OpAddr: "A", api.OpAdd: "AB", api.OpIndex: "ABC", api.OpBin: "ABC", api.OpUn: "AB", api.OpFit: "AB", api.OpLoad: "AB", api.OpStore: "AB", api.OpCopy: "AB", api.OpMove: "ABC", api.OpFill: "ABC", api.OpMalloc: "AB", api.OpFree: "A", api.OpCall: "Al", api.OpCallP: "ABl", api.OpJump: "", api.OpIf: "A", api.OpReturn: "A", api.OpInput: "A",
}

// holds tells whether a word has a letter.
func holds(word string, letter rune) bool {
	for _, c := range word {
		if c == letter {
			return true
		}
	}
	return false
}

func TestRegisters(t *testing.T) {
	for op, used := range uses {
		for _, r := range []int{0, 1, 4, 5, 6, -1, -2, 4000, 1 << 32, math.MaxInt, math.MinInt} {
			for _, letter := range "ABCl" {
				i := right(op)
				switch letter {
				case 'A':
					i.A = r
				case 'B':
					i.B = r
				case 'C':
					i.C = r
				case 'l':
					i.Args = []int{r}
				}
				e := api.OK
				if holds(used, letter) && (r < 0 || r > 4) && !(op == api.OpReturn && r == -1) {
					e = api.ErrRange
				}
				if op == api.OpAddr && letter == 'B' {
					continue
				}
				wantInsn(t, i, e)
			}
		}
	}
}

func TestEachArgIsARegister(t *testing.T) {
	for at := range 6 {
		i := api.Insn{Op: api.OpCallP, A: 1, B: 2, Args: []int{0, 1, 2, 3, 4, 0}}
		wantInsn(t, i, api.OK)
		for _, r := range []int{5, -1, 1 << 32} {
			i.Args = []int{0, 1, 2, 3, 4, 0}
			i.Args[at] = r
			wantInsn(t, i, api.ErrRange)
		}
	}
	wantInsn(t, api.Insn{Op: api.OpCall, N: 2, Args: []int{4, 4}}, api.OK)
	wantInsn(t, api.Insn{Op: api.OpCall, N: 2, Args: []int{4, 5}}, api.ErrRange)
	wantInsn(t, api.Insn{Op: api.OpCall, N: 2, Args: []int{-1, 4}}, api.ErrRange)
}

func TestRegistersAreThoseOfTheFunction(t *testing.T) {
	p := prog()
	p.Fns[1].Code = []api.Insn{{Op: api.OpConst, A: 1}, stop}
	wantCheck(t, p, 1, 0, api.ErrRange)
	p.Fns[1].Regs = 2
	wantCheck(t, p, 0, 0, api.OK)
	p.Fns[0].Regs, p.Fns[2].Code = 0, []api.Insn{{Op: api.OpFree, A: 1}, {Op: api.OpReturn, A: 2}}
	wantCheck(t, p, 2, 1, api.ErrRange)
}

func TestSitesOfAddr(t *testing.T) {
	for k := range siteCount {
		e := api.OK
		if k == siteZero {
			e = api.ErrRange
		}
		wantInsn(t, api.Insn{Op: api.OpAddr, B: k}, e)
	}
	for _, k := range []int{siteCount, siteCount + 1, 600, -1, math.MaxInt, math.MinInt, 1<<32 + 3} {
		wantInsn(t, api.Insn{Op: api.OpAddr, B: k}, api.ErrRange)
	}
}

func TestSitesOfMalloc(t *testing.T) {
	for k := -2; k < siteCount+2; k++ {
		e := api.ErrRange
		if k == siteHeap {
			e = api.OK
		}
		wantInsn(t, api.Insn{Op: api.OpMalloc, N: int64(k)}, e)
	}
	for _, k := range []int64{1<<32 + siteHeap, math.MinInt64 + siteHeap, math.MaxInt64} {
		wantInsn(t, api.Insn{Op: api.OpMalloc, N: k}, api.ErrRange)
	}
}

func TestSigns(t *testing.T) {
	two := []string{"+", "-", "*", "/", "%", "&", "|", "^", "<<", ">>", "==", "!=", "<", "<=", ">", ">="}
	for _, s := range two {
		wantInsn(t, api.Insn{Op: api.OpBin, Sign: s}, api.OK)
		e := api.ErrRange
		if s == "-" {
			e = api.OK
		}
		wantInsn(t, api.Insn{Op: api.OpUn, Sign: s}, e)
	}
	wantInsn(t, api.Insn{Op: api.OpUn, Sign: "~"}, api.OK)
	for _, s := range []string{"", "~", "!", "&&", "||", "=", "<<<", ">>>", "===", "+-", "+ ", " +", "+ -", "= =", "<>", "=<", "->", "**", "\x00", "＋", "a", "?", "--", "~~", "-~", "- ", "<< >>", "+ - * / % & | ^ << >> == != < <= > >="} {
		wantInsn(t, api.Insn{Op: api.OpBin, Sign: s}, api.ErrRange)
		if s != "~" {
			wantInsn(t, api.Insn{Op: api.OpUn, Sign: s}, api.ErrRange)
		}
	}
}

func TestWidths(t *testing.T) {
	for _, op := range []int{api.OpFit, api.OpLoad, api.OpStore} {
		for _, w := range []int{1, 4, 8} {
			wantInsn(t, api.Insn{Op: op, W: w}, api.OK)
		}
		for _, w := range []int{0, 2, 3, 5, 6, 7, 9, 16, -1, -4, -8, 1<<32 + 4, math.MaxInt, math.MinInt} {
			wantInsn(t, api.Insn{Op: op, W: w}, api.ErrRange)
		}
	}
}

func TestBytesOfCopy(t *testing.T) {
	for _, n := range []int64{0, 1, 8, 4095, 4096} {
		wantInsn(t, api.Insn{Op: api.OpCopy, N: n}, api.OK)
	}
	for _, n := range []int64{-1, 4097, 1 << 32, math.MaxInt64, math.MinInt64} {
		wantInsn(t, api.Insn{Op: api.OpCopy, N: n}, api.ErrRange)
	}
}

// What the table doesn't ask of an Op may be anything.
func TestOperandsThatAreNotAsked(t *testing.T) {
	for op := api.OpConst; op <= api.OpInput; op++ {
		i := right(op)
		switch op {
		case api.OpFit, api.OpLoad, api.OpStore:
		default:
			i.W = -3
		}
		if op != api.OpBin && op != api.OpUn {
			i.Sign = "?"
		}
		if op != api.OpCall && op != api.OpCallP {
			i.Args = []int{-1, 5, 6, 7, 8, 9, 10}
		}
		for _, n := range []int64{math.MaxInt64, math.MinInt64, -1} {
			switch op {
			case api.OpCopy, api.OpMalloc, api.OpCall, api.OpJump, api.OpIf:
			default:
				i.N = n
			}
			wantInsn(t, i, api.OK)
		}
	}
}

func TestCalls(t *testing.T) {
	lists := [][]int{nil, {1}, {1, 2}, {1, 2, 3}, {0, 1, 2, 3, 4, 0}, {0, 1, 2, 3, 4, 0, 1}}
	for _, l := range lists {
		for n := -1; n < 5; n++ {
			e := api.ErrRange
			if n == len(l) && n < 3 {
				e = api.OK
			}
			wantInsn(t, api.Insn{Op: api.OpCall, N: int64(n), Args: l}, e)
		}
		for _, n := range []int64{1 << 32, math.MaxInt64, math.MinInt64} {
			wantInsn(t, api.Insn{Op: api.OpCall, N: n, Args: l}, api.ErrRange)
		}
		e := api.OK
		if len(l) > 6 {
			e = api.ErrRange
		}
		wantInsn(t, api.Insn{Op: api.OpCallP, Args: l}, e)
	}
}

// A function may have more parameters than a source's, and be called with them.
func TestCallsWithManyArgs(t *testing.T) {
	p := prog(api.Insn{Op: api.OpCall, N: 1, Args: make([]int, 7)})
	p.Fns[1].Params, p.Fns[1].Regs = 7, 7
	wantCheck(t, p, 0, 0, api.OK)
	p = prog(api.Insn{Op: api.OpCall, N: 1, Args: make([]int, 4000)})
	p.Fns[1].Params, p.Fns[1].Regs = 4000, 4000
	wantCheck(t, p, 0, 0, api.OK)
	p.Fns[1].Params = 3999
	wantCheck(t, p, 0, 0, api.ErrRange)
}

func TestSuccessors(t *testing.T) {
	for _, op := range []int{api.OpJump, api.OpIf} {
		for n := int64(0); n < 2; n++ {
			wantCheck(t, prog(api.Insn{Op: op, N: n}), 0, 0, api.OK)
		}
		for _, n := range []int64{2, 3, -1, 1 << 32, 4000, math.MaxInt64, math.MinInt64} {
			wantCheck(t, prog(api.Insn{Op: op, N: n}), 0, 0, api.ErrRange)
		}
	}
	for op := api.OpConst; op <= api.OpInput; op++ {
		last, e := right(op), api.ErrRange
		switch op {
		case api.OpReturn, api.OpJump:
			e = api.OK
		}
		p := prog()
		p.Fns[0].Code = []api.Insn{stop, {Op: api.OpConst}, last}
		if op == api.OpJump || op == api.OpIf {
			p.Fns[0].Code[2].N = 2
		}
		at := 2
		if e == api.OK {
			at = 0
		}
		wantCheck(t, p, 0, at, e)
	}
}

// The index behind the last instruction is no successor either where OpIf leads to it twice.
func TestIfAtTheEnd(t *testing.T) {
	p := prog()
	p.Fns[0].Code = []api.Insn{{Op: api.OpIf, N: 1}}
	wantCheck(t, p, 0, 0, api.ErrRange)
	p.Fns[0].Code[0].N = 0
	wantCheck(t, p, 0, 0, api.ErrRange)
}

func TestTheFirstError(t *testing.T) {
	bad, odd := api.Insn{Op: api.OpConst, A: 5}, api.Insn{Op: 0, A: 5}
	wantCheck(t, prog(bad, odd), 0, 0, api.ErrRange)
	wantCheck(t, prog(odd, bad), 0, 0, api.ErrArg)
	wantCheck(t, prog(stop, stop, bad, odd, bad), 0, 2, api.ErrRange)
	p := prog(bad)
	p.Fns[1].Regs = 0
	p.Fns[2].Code = nil
	wantCheck(t, p, 0, 0, api.ErrRange)
	p.Fns[0].Code = []api.Insn{stop}
	wantCheck(t, p, 1, 0, api.ErrSize)
	p.Fns[1].Regs = 1
	wantCheck(t, p, 2, 0, api.ErrSize)
	p.Fns[2].Code = []api.Insn{stop, stop, odd}
	wantCheck(t, p, 2, 2, api.ErrArg)
	p.Fns[2].Locals = []int{siteLocal}
	wantCheck(t, p, 2, 0, api.ErrRange)
	p.Fns[2].Regs = 1
	wantCheck(t, p, 2, 0, api.ErrSize)
	p.Main = 3
	wantCheck(t, p, 0, 0, api.ErrRange)
	p.Fns = append(p.Fns, make([]api.Fn, 198)...)
	wantCheck(t, p, 0, 0, api.ErrSize)
}

// A call is wrong at its own place, even if the function that it calls is wrong too.
func TestCallsOfWrongFunctions(t *testing.T) {
	p := prog(api.Insn{Op: api.OpCall, N: 1, Args: []int{0}}, api.Insn{Op: api.OpCall, N: 1})
	p.Fns[1].Params = -1
	wantCheck(t, p, 0, 0, api.ErrRange)
	p.Fns[0].Code[0].N, p.Fns[0].Code[0].Args = 0, nil
	wantCheck(t, p, 0, 1, api.ErrRange)
	p.Fns[0].Code[1] = stop
	wantCheck(t, p, 1, 0, api.ErrSize)
	p = prog(api.Insn{Op: api.OpCall, N: 1, Args: []int{0}})
	p.Fns[1].Regs = 0
	wantCheck(t, p, 1, 0, api.ErrSize)
}

// many is a program of n functions and, behind their sites, so many others.
func many(n, others int) api.Prog {
	var p api.Prog
	for range n {
		p.Sites = append(p.Sites, api.Site{Kind: api.SiteFunc})
		p.Fns = append(p.Fns, api.Fn{Code: []api.Insn{stop}})
	}
	for range others {
		p.Sites = append(p.Sites, api.Site{Kind: api.SiteGlobal})
	}
	return p
}

func TestSizesOfPrograms(t *testing.T) {
	wantCheck(t, many(1, 0), 0, 0, api.OK)
	wantCheck(t, many(199, 0), 0, 0, api.OK)
	wantCheck(t, many(200, 0), 0, 0, api.OK)
	wantCheck(t, many(201, 0), 0, 0, api.ErrSize)
	wantCheck(t, many(201, 500), 0, 0, api.ErrSize)
	wantCheck(t, many(1, 599), 0, 0, api.OK)
	wantCheck(t, many(1, 600), 0, 0, api.ErrSize)
	wantCheck(t, many(200, 400), 0, 0, api.OK)
	wantCheck(t, many(200, 401), 0, 0, api.ErrSize)
	wantCheck(t, many(0, 600), 0, 0, api.ErrRange)
	wantCheck(t, many(0, 601), 0, 0, api.ErrSize)
	p := many(201, 0)
	p.Sites, p.Main = nil, -1
	wantCheck(t, p, 0, 0, api.ErrSize)
	p = many(1, 600)
	p.Main, p.Sites[0].Kind, p.Fns[0].Code = 7, 0, nil
	wantCheck(t, p, 0, 0, api.ErrSize)
}

func TestMain(t *testing.T) {
	p := prog()
	for _, m := range []int{0, 1, 2} {
		p.Main = m
		wantCheck(t, p, 0, 0, api.OK)
	}
	for _, m := range []int{3, 4, -1, math.MaxInt, math.MinInt, 1 << 32} {
		p.Main = m
		wantCheck(t, p, 0, 0, api.ErrRange)
	}
	wantCheck(t, api.Prog{}, 0, 0, api.ErrRange)
	p.Main, p.Fns[0].Code = 3, nil
	wantCheck(t, p, 0, 0, api.ErrRange)
}

func TestSitesOfFunctions(t *testing.T) {
	for k := range siteCount {
		p := prog()
		for _, kind := range []int{0, api.SiteGlobal, api.SiteLocal, api.SiteHeap, 5, -4, 1<<32 + 4} {
			if k < 3 {
				p.Sites[k].Kind = kind
				wantCheck(t, p, 0, 0, api.ErrRange)
			}
		}
		p.Sites[k].Kind = api.SiteFunc
		p.Fns[0].Locals, p.Fns[1].Locals, p.Fns[2].Locals = nil, nil, nil
		e := api.OK
		if k >= 3 {
			e = api.ErrRange
		}
		wantCheck(t, p, 0, 0, e)
	}
	p := many(3, 0)
	for n := range 3 {
		p.Sites = p.Sites[:n]
		wantCheck(t, p, 0, 0, api.ErrRange)
	}
	p.Sites = []api.Site{{Kind: api.SiteFunc}, {Kind: api.SiteFunc}, {Kind: api.SiteFunc}, {Kind: api.SiteFunc}}
	wantCheck(t, p, 0, 0, api.ErrRange)
	p.Fns[0].Code = nil
	wantCheck(t, p, 0, 0, api.ErrRange)
}

// The sites of functions may be of any name, size and number.
func TestOtherPartsOfSites(t *testing.T) {
	p := prog()
	p.Sites[0] = api.Site{Kind: api.SiteFunc, Size: -9, Func: 77, Name: "?", T: api.T{Kind: -1}}
	p.Sites[siteLocal].Size, p.Sites[siteLocal].Name, p.Sites[siteLocal].T = -9, "", api.T{Kind: 77}
	p.Fns[0].Name, p.Fns[1].Name = "", "g"
	wantCheck(t, p, 0, 0, api.OK)
}

func TestSizesOfFunctions(t *testing.T) {
	for n := range 3 {
		for _, c := range []struct {
			regs, params, code int
			e                  api.Errno
		}{
			{3, 2, 1, api.OK}, {2, 2, 1, api.OK}, {1, 2, 1, api.ErrSize}, {0, 2, 1, api.ErrSize}, {-1, 2, 1, api.ErrSize},
			{0, 0, 1, api.OK}, {0, 1, 1, api.ErrSize}, {-1, 0, 1, api.ErrSize}, {math.MinInt, 0, 1, api.ErrSize},
			{4000, 0, 1, api.OK}, {4000, 4000, 1, api.OK}, {3999, 4000, 1, api.ErrSize}, {4001, 0, 1, api.ErrSize}, {4001, 4001, 1, api.ErrSize}, {math.MaxInt, 0, 1, api.ErrSize},
			{0, -1, 1, api.ErrSize}, {-1, -1, 1, api.ErrSize}, {-1, -2, 1, api.ErrSize}, {5, math.MinInt, 1, api.ErrSize},
			{0, 0, 0, api.ErrSize}, {0, 0, 2, api.OK}, {0, 0, 3999, api.OK}, {0, 0, 4000, api.OK}, {0, 0, 4001, api.ErrSize}, {0, 0, 9999, api.ErrSize},
		} {
			p := prog()
			f := api.Fn{Regs: c.regs, Params: c.params, Code: make([]api.Insn, c.code)}
			for pc := range f.Code {
				f.Code[pc] = stop
			}
			p.Fns[n] = f
			at := n
			if c.e == api.OK {
				at = 0
			}
			wantCheck(t, p, at, 0, c.e)
		}
	}
}

// The last of the greatest number of instructions is checked as the first one.
func TestTheLastInstruction(t *testing.T) {
	p := prog()
	code := make([]api.Insn, 4000)
	for pc := range code {
		code[pc] = api.Insn{Op: api.OpIf, A: 3999, N: int64(3999 - pc)}
	}
	code[3999] = api.Insn{Op: api.OpJump, N: 3999}
	p.Fns[2] = api.Fn{Regs: 4000, Code: code}
	wantCheck(t, p, 0, 0, api.OK)
	code[3999].N = 4000
	wantCheck(t, p, 2, 3999, api.ErrRange)
	code[3998].A = 4000
	wantCheck(t, p, 2, 3998, api.ErrRange)
}

func TestLocals(t *testing.T) {
	for n := range 3 {
		for k := -2; k < siteCount+2; k++ {
			p := prog()
			p.Fns[n].Locals = []int{siteLocal + n, siteLocal + n, k}
			if k == siteLocal+n {
				wantCheck(t, p, 0, 0, api.OK)
			} else {
				wantCheck(t, p, n, 0, api.ErrRange)
			}
			p.Fns[n].Locals = []int{k}
			if k == siteLocal+n {
				wantCheck(t, p, 0, 0, api.OK)
			} else {
				wantCheck(t, p, n, 0, api.ErrRange)
			}
		}
	}
	for _, k := range []int{math.MaxInt, math.MinInt, 1<<32 + siteLocal} {
		p := prog()
		p.Fns[0].Locals[0] = k
		wantCheck(t, p, 0, 0, api.ErrRange)
	}
	p := prog(api.Insn{Op: 0})
	p.Sites[siteLocal].Func = 1
	wantCheck(t, p, 0, 0, api.ErrRange)
	p.Sites[siteLocal].Func = 0
	wantCheck(t, p, 0, 0, api.ErrArg)
	p.Fns[0].Locals = nil
	wantCheck(t, p, 0, 0, api.ErrArg)
}

// A local may be taken by a function whose it isn't: Check asks of OpAddr only that its site has a kind.
func TestAddrOfAnothersLocal(t *testing.T) {
	wantInsn(t, api.Insn{Op: api.OpAddr, B: siteLocal + 1}, api.OK)
	p := prog(api.Insn{Op: api.OpAddr, B: siteLocal})
	p.Fns[0].Locals = nil
	wantCheck(t, p, 0, 0, api.OK)
}
