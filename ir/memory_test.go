package ir_test

import (
	"math"
	"math/rand/v2"
	"reflect"
	"slices"
	"strings"
	"testing"

	"crosstree/api"
	"crosstree/ir"
)

// R2, R3 and P1: whose memory it is, and that every call ends.

func copyOfProg(p api.Prog) api.Prog {
	p.Sites, p.Fns = slices.Clone(p.Sites), slices.Clone(p.Fns)
	for n, f := range p.Fns {
		f.Locals, f.Code = slices.Clone(f.Locals), slices.Clone(f.Code)
		for pc, i := range f.Code {
			f.Code[pc].Args = slices.Clone(i.Args)
		}
		p.Fns[n] = f
	}
	return p
}

func TestArgumentsAreLeftAlone(t *testing.T) {
	m := maker{rand.New(rand.NewPCG(8, 3))}
	for range 500 {
		p := m.prog()
		before := copyOfProg(p)
		ir.Check(p)
		for _, f := range p.Fns {
			for pc, i := range f.Code {
				ir.Reads(i)
				ir.Writes(i)
				ir.Next(i, pc)
			}
		}
		if !reflect.DeepEqual(p, before) {
			t.Fatalf("%v was changed to %v", before, p)
		}
	}
}

// overwrite overwrites a list, and the room behind it.
func overwrite(l []int) {
	l = l[:cap(l)]
	for i := range l {
		l[i] = 77
	}
}

func TestAnswersAreTheCallers(t *testing.T) {
	for range 3 {
		for op := range 23 {
			args := []int{21, 22, 23, 24}
			i := full(op)
			i.Args = args[:2]
			reads, next := slices.Clone(ir.Reads(i)), slices.Clone(ir.Next(i, 3))
			a, b := ir.Reads(i), ir.Next(i, 3)
			overwrite(ir.Reads(i))
			overwrite(ir.Next(i, 3))
			if !slices.Equal(a, reads) || !slices.Equal(b, next) || !slices.Equal(args, []int{21, 22, 23, 24}) {
				t.Errorf("%d: %v, %v and %v when other answers are overwritten", op, a, b, args)
			}
			wantInsnAsReference(t, i, 3)
		}
	}
}

func TestNilAndEmptyLists(t *testing.T) {
	for _, l := range [][]int{nil, {}} {
		wantReads(t, api.Insn{Op: api.OpCall, Args: l})
		wantReads(t, api.Insn{Op: api.OpCallP, B: 3, Args: l}, 3)
		wantInsn(t, api.Insn{Op: api.OpCall, Args: l}, api.OK)
		wantInsn(t, api.Insn{Op: api.OpCallP, Args: l}, api.OK)
		p := prog()
		p.Fns[0].Locals = l
		wantCheck(t, p, 0, 0, api.OK)
	}
	for _, l := range [][]api.Insn{nil, {}} {
		p := prog()
		p.Fns[1].Code = l
		wantCheck(t, p, 1, 0, api.ErrSize)
	}
	wantCheck(t, api.Prog{Sites: []api.Site{}, Fns: []api.Fn{}}, 0, 0, api.ErrRange)
	wantCheck(t, api.Prog{Sites: []api.Site{}, Fns: []api.Fn{{Code: []api.Insn{stop}}}}, 0, 0, api.ErrRange)
}

// The greatest well-formed programs: as many functions, instructions and registers as may be, and calls with as many Args as registers.
func TestTheGreatestPrograms(t *testing.T) {
	p := many(200, 400)
	args := make([]int, 4000)
	for k := range args {
		args[k] = 3999 - k
	}
	code := make([]api.Insn, 4000)
	for pc := range code {
		code[pc] = api.Insn{Op: api.OpBin, A: 3999, B: pc, C: 3999 - pc, Sign: "<<"}
	}
	code[3998] = api.Insn{Op: api.OpCall, N: 199, Args: args}
	code[3999] = stop
	for n := range p.Fns {
		p.Fns[n] = api.Fn{Regs: 4000, Params: 4000, Code: code}
	}
	wantCheck(t, p, 0, 0, api.OK)
	p.Fns[199].Code = slices.Clone(code)
	p.Fns[199].Code[3998].Args = append(slices.Clone(args[:3999]), 4000)
	wantCheck(t, p, 199, 3998, api.ErrRange)
}

func TestVeryLongLists(t *testing.T) {
	long := make([]int, 1<<22)
	if l := ir.Reads(api.Insn{Op: api.OpCallP, B: 1, Args: long}); len(l) != len(long)+1 || l[0] != 1 {
		t.Errorf("OpCallP with %d Args reads %d registers", len(long), len(l))
	}
	wantInsn(t, api.Insn{Op: api.OpCallP, Args: long}, api.ErrRange)
	wantInsn(t, api.Insn{Op: api.OpCall, Args: long}, api.ErrRange)
	wantInsn(t, api.Insn{Op: api.OpBin, Sign: strings.Repeat("+", 1<<22)}, api.ErrRange)
	p := prog(api.Insn{Op: api.OpCall, N: 1, Args: long})
	p.Fns[1].Params = len(long)
	wantCheck(t, p, 1, 0, api.ErrSize)
	p.Fns[1].Regs = len(long)
	wantCheck(t, p, 1, 0, api.ErrSize)
	p = prog(api.Insn{Op: 99})
	for k := range long {
		long[k] = siteLocal
	}
	p.Fns[0].Locals = long
	wantCheck(t, p, 0, 0, api.ErrArg)
	long[len(long)-1]++
	wantCheck(t, p, 0, 0, api.ErrRange)
	p.Fns = make([]api.Fn, 1<<20)
	wantCheck(t, p, 0, 0, api.ErrSize)
	p = prog()
	p.Sites = make([]api.Site, 1<<20)
	wantCheck(t, p, 0, 0, api.ErrSize)
}

// Sites may have types that hold themselves: Check doesn't ask for them.
func TestTypesOfSites(t *testing.T) {
	l := make([]api.T, 1)
	l[0] = api.T{Kind: api.TArr, N: 1, Of: l}
	p := prog()
	p.Sites[siteGlobal].T, p.Sites[0].T = l[0], l[0]
	wantCheck(t, p, 0, 0, api.OK)
}

func TestStrangeNumbers(t *testing.T) {
	m := maker{rand.New(rand.NewPCG(8, 4))}
	ints := []int{0, 1, -1, 3, 4, 7, 4000, math.MaxInt, math.MinInt, math.MaxInt32, math.MinInt32}
	for range 50000 {
		p := prog(api.Insn{Op: m.IntN(24) - 1, A: some(m, ints...), B: some(m, ints...), C: some(m, ints...), W: some(m, ints...), N: int64(some(m, ints...)), Args: []int{some(m, ints...)}})
		switch m.IntN(6) {
		case 0:
			p.Main = some(m, ints...)
		case 1:
			p.Fns[m.IntN(3)].Regs = some(m, ints...)
		case 2:
			p.Fns[m.IntN(3)].Params = some(m, ints...)
		case 3:
			p.Sites[m.IntN(len(p.Sites))].Kind = some(m, ints...)
		case 4:
			p.Sites[m.IntN(len(p.Sites))].Func = some(m, ints...)
		case 5:
			p.Fns[m.IntN(3)].Locals = []int{some(m, ints...)}
		}
		wantAsReference(t, p)
	}
}
