package ir_test

import (
	"math"
	"math/rand/v2"
	"slices"
	"strings"
	"testing"

	"crosstree/api"
	"crosstree/ir"
)

// A second ir, which reads the table as it stands in the chapter.

const table = `OpConst | | A |
OpAddr | | A | B is the index of a site whose Kind is not 0
OpAdd | B | A |
OpIndex | B, C | A |
OpBin | B, C | A | Sign is one of + - * / % & | ^ << >> == != < <= > >=
OpUn | B | A | Sign is - or ~
OpFit | B | A | W is 1, 4 or 8
OpLoad | B | A | W is 1, 4 or 8
OpStore | A, B | | W is 1, 4 or 8
OpCopy | A, B | | N is 0 to 4096
OpMove, OpFill | A, B, C | |
OpMalloc | B | A | N is the index of a site of the Kind SiteHeap
OpFree | A | |
OpCall | Args | A | N is the index of a function with as many parameters as Args
OpCallP | B, Args | A | there are at most 6 Args
OpJump | | | N is an index in the code of the function
OpIf | A | | N is an index in the code of the function
OpReturn | A, if it is not -1 | |
OpInput | | A |`

var opNames = []string{"", "OpConst", "OpAddr", "OpAdd", "OpIndex", "OpBin", "OpUn", "OpFit", "OpLoad", "OpStore", "OpCopy", "OpMove", "OpFill", "OpMalloc", "OpFree", "OpCall", "OpCallP", "OpJump", "OpIf", "OpReturn", "OpInput"}

// rowOf are the three columns behind an Op's name; nil for any other Op.
func rowOf(op int) []string {
	if op < 1 || op >= len(opNames) {
		return nil
	}
	for line := range strings.Lines(table) {
		l := strings.SplitN(strings.TrimSpace(line)+" ", "|", 4)
		if slices.Contains(strings.Split(strings.TrimSpace(l[0]), ", "), opNames[op]) {
			return []string{strings.TrimSpace(l[1]), strings.TrimSpace(l[2]), strings.TrimSpace(l[3])}
		}
	}
	return nil
}

var rowsOf = func() [][]string {
	l := make([][]string, 30)
	for op := range l {
		l[op] = rowOf(op)
	}
	return l
}()

func tableRow(op int) []string {
	if op < 0 || op >= len(rowsOf) {
		return nil
	}
	return rowsOf[op]
}

func refReads(i api.Insn) []int {
	row := tableRow(i.Op)
	if row == nil || row[0] == "" {
		return nil
	}
	if row[0] == "A, if it is not -1" {
		if i.A == -1 {
			return nil
		}
		return []int{i.A}
	}
	var l []int
	for _, word := range strings.Split(row[0], ", ") {
		l = append(l, map[string][]int{"A": {i.A}, "B": {i.B}, "C": {i.C}, "Args": i.Args}[word]...)
	}
	return l
}

func refWrites(i api.Insn) int {
	if row := tableRow(i.Op); row != nil && row[1] == "A" {
		return i.A
	}
	return -1
}

func refNext(i api.Insn, pc int) []int {
	switch i.Op {
	case api.OpJump:
		return []int{int(i.N)}
	case api.OpIf:
		if int(i.N) == pc+1 {
			return []int{pc + 1}
		}
		return []int{pc + 1, int(i.N)}
	case api.OpReturn:
		return nil
	}
	return []int{pc + 1}
}

// refOther tells whether the other operands are as the table says.
func refOther(p api.Prog, f api.Fn, i api.Insn) bool {
	isSite := func(n int64) bool { return n >= 0 && n < int64(len(p.Sites)) }
	text := tableRow(i.Op)[2]
	switch text {
	case "":
		return true
	case "B is the index of a site whose Kind is not 0":
		return isSite(int64(i.B)) && p.Sites[i.B].Kind != 0
	case "W is 1, 4 or 8":
		return slices.Contains([]int{1, 4, 8}, i.W)
	case "N is 0 to 4096":
		return 0 <= i.N && i.N <= 4096
	case "N is the index of a site of the Kind SiteHeap":
		return isSite(i.N) && p.Sites[i.N].Kind == api.SiteHeap
	case "N is the index of a function with as many parameters as Args":
		return 0 <= i.N && i.N < int64(len(p.Fns)) && p.Fns[i.N].Params == len(i.Args)
	case "there are at most 6 Args":
		return len(i.Args) <= 6
	case "N is an index in the code of the function":
		return 0 <= i.N && i.N < int64(len(f.Code))
	case "Sign is - or ~":
		return i.Sign == "-" || i.Sign == "~"
	}
	signs, found := strings.CutPrefix(text, "Sign is one of ")
	if !found {
		panic(text)
	}
	return slices.Contains(strings.Split(signs, " "), i.Sign)
}

func refInsn(p api.Prog, f api.Fn, pc int) api.Errno {
	i := f.Code[pc]
	row := tableRow(i.Op)
	if row == nil {
		return api.ErrArg
	}
	registers := refReads(i)
	if row[1] != "" {
		registers = append(slices.Clone(registers), i.A)
	}
	for _, r := range registers {
		if r < 0 || r > f.Regs-1 {
			return api.ErrRange
		}
	}
	if !refOther(p, f, i) {
		return api.ErrRange
	}
	for _, to := range refNext(i, pc) {
		if to < 0 || to > len(f.Code)-1 {
			return api.ErrRange
		}
	}
	return api.OK
}

func refFn(p api.Prog, n int) (int, api.Errno) {
	f := p.Fns[n]
	switch {
	case len(f.Code) > 4000, len(f.Code) == 0, f.Regs > 4000, f.Regs < f.Params, f.Params < 0:
		return 0, api.ErrSize
	}
	for _, k := range f.Locals {
		if k < 0 || k >= len(p.Sites) {
			return 0, api.ErrRange
		}
		if s := p.Sites[k]; s.Kind != api.SiteLocal || s.Func != n {
			return 0, api.ErrRange
		}
	}
	for pc := range f.Code {
		if e := refInsn(p, f, pc); e != api.OK {
			return pc, e
		}
	}
	return 0, api.OK
}

func refCheck(p api.Prog) (int, int, api.Errno) {
	if len(p.Fns) > 200 || len(p.Sites) > 600 {
		return 0, 0, api.ErrSize
	}
	if p.Main < 0 || p.Main >= len(p.Fns) {
		return 0, 0, api.ErrRange
	}
	for n := range p.Fns {
		if n >= len(p.Sites) || p.Sites[n].Kind != api.SiteFunc {
			return 0, 0, api.ErrRange
		}
	}
	for _, s := range p.Sites[len(p.Fns):] {
		if s.Kind == api.SiteFunc {
			return 0, 0, api.ErrRange
		}
	}
	for n := range p.Fns {
		if pc, e := refFn(p, n); e != api.OK {
			return n, pc, e
		}
	}
	return 0, 0, api.OK
}

func wantAsReference(t *testing.T, p api.Prog) api.Errno {
	t.Helper()
	n, pc, e := ir.Check(p)
	if m, at, err := refCheck(p); n != m || pc != at || e != err {
		t.Fatalf("Check(%v) = %d, %d, %d, want %d, %d, %d", p, n, pc, e, m, at, err)
	}
	if e == api.OK {
		wantWellFormed(t, p)
	}
	return e
}

// wantWellFormed holds P8.3.
func wantWellFormed(t *testing.T, p api.Prog) {
	t.Helper()
	for _, f := range p.Fns {
		for pc, i := range f.Code {
			next := ir.Next(i, pc)
			if (len(next) == 0) != (i.Op == api.OpReturn) {
				t.Fatalf("%v ends a function", i)
			}
			for _, to := range next {
				if to < 0 || to >= len(f.Code) {
					t.Fatalf("%v leads to %d", i, to)
				}
			}
			for _, r := range ir.Reads(i) {
				if r < 0 || r >= f.Regs {
					t.Fatalf("%v reads %d", i, r)
				}
			}
		}
	}
}

func wantInsnAsReference(t *testing.T, i api.Insn, pc int) {
	t.Helper()
	wantReads(t, i, refReads(i)...)
	wantWrites(t, i, refWrites(i))
	wantNext(t, i, pc, refNext(i, pc)...)
}

// All instructions of few numbers, within a program of two functions with five sites, of which the last four are of the kinds 1, 2, 3 and 0.
func TestAllSmallInstructions(t *testing.T) {
	p := api.Prog{Sites: []api.Site{{Kind: api.SiteFunc}, {Kind: api.SiteFunc}, {Kind: api.SiteGlobal}, {Kind: api.SiteLocal}, {Kind: api.SiteHeap}, {}}, Fns: []api.Fn{
		{Regs: 3, Code: []api.Insn{{}, stop}},
		{Params: 2, Regs: 2, Code: []api.Insn{stop}},
	}}
	right := 0
	for op := -1; op < 23; op++ {
		for a := -2; a < 4; a++ {
			for b := -1; b < 7; b++ {
				for c := -1; c < 4; c++ {
					for n := int64(-1); n < 7; n++ {
						for k, l := range [][]int{nil, {0, 2}, {1, 3}, {2, 2, -1}} {
							i := api.Insn{Op: op, A: a, B: b, C: c, W: int(n) + k, N: n, Sign: []string{"-", "!=", "~", "!"}[k], Args: l}
							wantInsnAsReference(t, i, b)
							p.Fns[0].Code[0] = i
							if wantAsReference(t, p) == api.OK {
								right++
							}
						}
					}
				}
			}
		}
	}
	if right < 1000 {
		t.Errorf("only %d instructions are right", right)
	}
}

type maker struct{ *rand.Rand }

// some picks one of a list.
func some[E any](m maker, l ...E) E {
	return l[m.IntN(len(l))]
}

// register is most often one of the function.
func (m maker) register(f api.Fn) int {
	if m.IntN(150) == 0 {
		return some(m, -1, f.Regs, f.Regs+1, math.MaxInt, math.MinInt)
	}
	return m.IntN(max(f.Regs, 1))
}

func (m maker) insn(p api.Prog, f api.Fn) api.Insn {
	i := api.Insn{Op: 1 + m.IntN(20), A: m.register(f), B: m.register(f), C: m.register(f), W: some(m, 1, 4, 8), N: int64(m.IntN(max(1, len(f.Code)))), Sign: some(m, "-", "~", "+", "<<", ">=")}
	if m.IntN(200) == 0 {
		i.Op, i.W, i.N, i.Sign = m.IntN(24)-1, m.IntN(10), int64(m.IntN(6000)-1000), some(m, "", "!", "<")
	}
	for range m.IntN(3) {
		i.Args = append(i.Args, m.register(f))
	}
	switch i.Op {
	case api.OpAddr:
		i.B = m.IntN(len(p.Sites) + m.IntN(20)/19)
	case api.OpMalloc:
		i.N = int64(len(p.Sites) - 1)
	case api.OpCall:
		i.N = int64(m.IntN(len(p.Fns)))
		i.Args = make([]int, max(0, min(9, p.Fns[i.N].Params)))
	case api.OpBin:
		i.Sign = some(m, "-", "+", "<<", ">=", "^", "|")
	case api.OpUn:
		i.Sign = some(m, "-", "~")
	}
	return i
}

// prog is a program of few functions, in which little is wrong.
func (m maker) prog() api.Prog {
	p := many(1+m.IntN(4), 1)
	for n := range p.Fns {
		p.Fns[n] = api.Fn{Params: m.IntN(3), Regs: 2 + m.IntN(3)}
		for range m.IntN(3) {
			p.Fns[n].Locals = append(p.Fns[n].Locals, len(p.Sites))
			p.Sites = append(p.Sites, api.Site{Kind: api.SiteLocal, Func: n})
		}
	}
	p.Sites = append(p.Sites, api.Site{Kind: api.SiteHeap})
	p.Main = m.IntN(len(p.Fns))
	for n := range p.Fns {
		f := &p.Fns[n]
		f.Code = make([]api.Insn, 1+m.IntN(6))
		for pc := range f.Code {
			f.Code[pc] = m.insn(p, *f)
		}
		f.Code[len(f.Code)-1] = some(m, stop, api.Insn{Op: api.OpReturn}, api.Insn{Op: api.OpJump})
	}
	return p
}

// spoil changes one thing of a program.
func (m maker) spoil(p *api.Prog) {
	f := &p.Fns[m.IntN(len(p.Fns))]
	s := &p.Sites[m.IntN(len(p.Sites))]
	switch m.IntN(9) {
	case 0:
		p.Main = m.IntN(7) - 1
	case 1:
		s.Kind = m.IntN(6)
	case 2:
		s.Func = m.IntN(4)
	case 3:
		f.Regs = m.IntN(5) - 1
	case 4:
		f.Params = m.IntN(6) - 2
	case 5:
		f.Locals = append(f.Locals, m.IntN(9)-1)
	case 6:
		f.Code = f.Code[:m.IntN(len(f.Code)+1)]
	case 7:
		p.Sites = p.Sites[:m.IntN(len(p.Sites)+1)]
	case 8:
		p.Fns = p.Fns[:m.IntN(len(p.Fns)+1)]
	}
}

func TestRandomPrograms(t *testing.T) {
	m := maker{rand.New(rand.NewPCG(8, 1))}
	counts := map[api.Errno]int{}
	for k := range 60000 {
		p := m.prog()
		if k%2 == 0 {
			m.spoil(&p)
		}
		counts[wantAsReference(t, p)]++
	}
	for _, e := range []api.Errno{api.OK, api.ErrArg, api.ErrRange, api.ErrSize} {
		if counts[e] < 100 {
			t.Errorf("of all random programs only %d have the error %d", counts[e], e)
		}
	}
}

func TestRandomInstructions(t *testing.T) {
	m := maker{rand.New(rand.NewPCG(8, 2))}
	ints := []int{0, 1, -1, 2, 7, 20, 21, math.MaxInt, math.MinInt, 1 << 32}
	for range 100000 {
		i := api.Insn{Op: m.IntN(23) - 1, A: some(m, ints...), B: some(m, ints...), C: some(m, ints...), W: some(m, ints...), N: int64(some(m, ints...)), Sign: some(m, "", "-", "+")}
		for range m.IntN(5) {
			i.Args = append(i.Args, some(m, ints...))
		}
		wantInsnAsReference(t, i, some(m, ints...))
	}
}
