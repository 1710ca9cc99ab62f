package mach_test

import (
	"math"
	"reflect"
	"slices"
	"testing"

	"crosstree/api"
	"crosstree/mach"
	"crosstree/mem"
)

// R1, R3, R4, P1 and P11.5: whose memory it is, that machines are apart, and that every call ends.

// picture is all that a machine tells.
type picture struct {
	frames []picturedFrame
	blocks []picturedBlock
	result api.Value
}

type picturedFrame struct {
	fn, pc    int
	registers []api.Value
}

type picturedBlock struct {
	site, size int
	live       bool
	bytes      []api.Byte
}

// blocksOf returns the blocks of a memory whose first one lives.
func blocksOf(l *mem.Mem) []picturedBlock {
	var all []picturedBlock
	for b := 1; b <= api.MaxBlocks; b++ {
		site, size, live := l.Block(b)
		if site == 0 && size == 0 && !live {
			break
		}
		all = append(all, picturedBlock{site, size, live, l.Bytes(b)})
	}
	return all
}

func seen(m *mach.Machine) picture {
	p := picture{blocks: blocksOf(m.Mem()), result: m.Result()}
	for i := range m.Depth() {
		fn, pc, l := m.Frame(i)
		p.frames = append(p.frames, picturedFrame{fn, pc, l})
	}
	return p
}

func wantSeen(t *testing.T, m *mach.Machine, want picture) {
	t.Helper()
	if p := seen(m); !reflect.DeepEqual(p, want) {
		t.Errorf("the machine has %+v, not %+v", p, want)
	}
}

func copyOf(p api.Prog) api.Prog {
	p.Sites, p.Fns = slices.Clone(p.Sites), slices.Clone(p.Fns)
	for n, f := range p.Fns {
		f.Locals, f.Code = slices.Clone(f.Locals), slices.Clone(f.Code)
		for pc, i := range f.Code {
			f.Code[pc].Args = slices.Clone(i.Args)
		}
		p.Fns[n] = f
	}
	return p
}

// overwrite puts something else in all lists of a program.
func overwrite(p api.Prog) {
	for _, f := range p.Fns {
		for _, i := range f.Code {
			for k := range i.Args {
				i.Args[k] = 7777
			}
		}
		for k := range f.Code {
			f.Code[k] = api.Insn{Op: 99, A: -5, Sign: "?"}
		}
		for k := range f.Locals {
			f.Locals[k] = -9
		}
	}
	for k := range p.Fns {
		p.Fns[k] = api.Fn{}
	}
	for k := range p.Sites {
		p.Sites[k] = api.Site{Kind: -3, Size: -4}
	}
}

// busy returns a program that does some of everything, and a script for it.
func busy() (api.Prog, api.Script) {
	return program(
		op(api.OpInput, 1, 0, 0), op(api.OpInput, 2, 0, 0), call(3, fnF, 1, 2), address(4, siteG), callAt(5, 4), malloc(6, 1), malloc(7, 1),
		address(8, siteLocal), store(8, 7, 8), load(6, 8, 8), store(6, 3, 4), address(9, siteBig), add(9, 9, 3), op(api.OpMove, 9, 7, 1), op(api.OpFree, 6, 0, 0), leave(3),
	), api.Script{Input: []int64{9, 4}, Fails: []bool{true, false}, Fuel: 60}
}

// pictures returns what a machine tells ahead of each step, and its moments.
func pictures(m *mach.Machine) ([]picture, []api.Moment) {
	var all []picture
	var moments []api.Moment
	for x := (api.Moment{}); x.Err == api.OK; moments = append(moments, x) {
		all = append(all, seen(m))
		x = m.Step()
	}
	return all, moments
}

func wantSameRun(t *testing.T, m, o *mach.Machine) {
	t.Helper()
	all, moments := pictures(m)
	others, same := pictures(o)
	if !slices.Equal(moments, same) {
		t.Errorf("%v, and then %v", moments, same)
	}
	if !reflect.DeepEqual(all, others) {
		t.Error("the machines differ")
	}
}

func TestBusyProgramEnds(t *testing.T) {
	p, s := busy()
	m := begun(t, p, s)
	_, moments := pictures(m)
	if len(moments) != 20 || moments[len(moments)-1] != ended {
		t.Errorf("%d steps: %v", len(moments), moments)
	}
	wantResult(t, m, num(5))
}

func TestTheSameRunEachTime(t *testing.T) {
	p, s := busy()
	for range 3 {
		wantSameRun(t, begun(t, p, s), begun(t, copyOf(p), s))
	}
}

func TestArgumentsStay(t *testing.T) {
	p, s := busy()
	q, c := copyOf(p), api.Script{Input: slices.Clone(s.Input), Fails: slices.Clone(s.Fails), Fuel: s.Fuel}
	m := begun(t, p, s)
	pictures(m)
	if !reflect.DeepEqual(p, q) || !reflect.DeepEqual(s, c) {
		t.Errorf("%v, %v became %v, %v", q, c, p, s)
	}
}

func TestArgumentsAreNotKept(t *testing.T) {
	for steps := range 18 {
		p, s := busy()
		m, o := begun(t, p, s), begun(t, copyOf(p), api.Script{Input: slices.Clone(s.Input), Fails: slices.Clone(s.Fails), Fuel: s.Fuel})
		stepped(t, m, steps)
		stepped(t, o, steps)
		overwrite(p)
		s.Input[0], s.Input[1], s.Fails[0], s.Fails[1] = 55, 56, false, true
		wantSameRun(t, m, o)
	}
}

func TestRegistersAreTheCallers(t *testing.T) {
	m := after(t, constant(1, 3), call(2, fnF, 1, 1))
	want := seen(m)
	for i := range 2 {
		_, _, l := m.Frame(i)
		l = l[:cap(l)]
		for k := range l {
			l[k] = part(3, 3, 3)
		}
	}
	wantSeen(t, m, want)
	_, _, l := m.Frame(1)
	stepped(t, m, 1)
	if !slices.Equal(l, []api.Value{num(3), num(3), num(0), num(0)}) {
		t.Errorf("an answer became %v", l)
	}
	m = after(t, constant(1, 3), call(2, fnF, 1, 1))
	_, _, l = m.Frame(0)
	stepped(t, m, 2)
	l[1] = num(44)
	wantRegister(t, m, 1, num(3))
}

func TestMachinesAreApart(t *testing.T) {
	p, s := busy()
	m, o := begun(t, p, s), begun(t, p, s)
	all, moments := pictures(begun(t, p, s))
	for k := range moments {
		wantSeen(t, o, all[k])
		wantMoment(t, o, moments[k])
		if k%2 == 0 {
			m.Step()
			m.Mem().Alloc(1, 1, true)
		}
	}
}

// Machines of one program share nothing, nor do two functions of one program that are given the same lists.
func TestSharedLists(t *testing.T) {
	args := []int{1, 2}
	p := program(constant(1, 9), constant(2, 4), call(3, fnF, args...), call(4, fnF, args...))
	m := begun(t, p, enough)
	stepped(t, m, 2)
	args[0], args[1] = 2, 1
	stepped(t, m, 6)
	wantRegister(t, m, 3, num(5))
	wantRegister(t, m, 4, num(5))
}

func TestNoMachineBesideAnError(t *testing.T) {
	p := program(constant(10, 1))
	if m, e := mach.New(p, enough); m != nil || e != api.ErrRange {
		t.Errorf("%v, %d", m, e)
	}
}

// A script that is longer than any run is kept no further than the run can ask for.
func TestGreatScripts(t *testing.T) {
	s := api.Script{Input: make([]int64, 1<<20), Fails: make([]bool, 1<<20), Fuel: 4}
	s.Input[3], s.Fails[0] = 7, true
	read := op(api.OpInput, 1, 0, 0)
	m := begun(t, program(read, read, read, read), s)
	stepped(t, m, 4)
	wantRegister(t, m, 1, num(7))
	wantMoment(t, m, plain(4, api.ErrBudget))
	m = begun(t, program(constant(1, 3), malloc(2, 1)), s)
	stepped(t, m, 2)
	wantRegister(t, m, 2, num(0))
}

// Whoever has the memory may allocate and end blocks there, and store any values.
func TestAnyMemory(t *testing.T) {
	ops := []api.Insn{load(3, 2, 4), store(2, 2, 8), op(api.OpFree, 2, 0, 0), callAt(3, 2, 1, 1), callAt(3, 2), branch(2, 0), binary(3, "-", 2, 1), index(3, 2, 1, 1), add(3, 2, 0), op(api.OpMove, 2, 1, 0), leave(2)}
	pointers := []api.Value{ptr(firstFree, 0), ptr(firstFree+1, 0), ptr(math.MaxInt, math.MinInt64), ptr(math.MaxInt, 0), ptr(1, 0), ptr(2, 0), ptr(blockLo, -7)}
	sites := []int{math.MinInt, -1, 0, 1, siteHeap, siteLocal, 9, 10, math.MaxInt}
	for _, last := range ops {
		for _, site := range sites {
			for _, v := range pointers {
				m := begun(t, program(address(1, siteBig), load(2, 1, 8), last), enough)
				l := m.Mem()
				l.Alloc(site, 8, true)
				l.Store(ptr(blockBig, 0), 8, v)
				for _, k := range []int{blockMain, blockF, blockG, blockSmall, blockLo} {
					l.End(k)
				}
				stepped(t, m, 2)
				for range 9 {
					m.Step()
				}
			}
		}
	}
}

func TestFreeOfABlockFromOutside(t *testing.T) {
	for site, want := range map[int]api.Errno{siteHeap: api.OK, siteOther: api.OK, siteBig: api.ErrUndef, siteNone: api.ErrUndef, 10: api.ErrUndef, -1: api.ErrUndef, math.MaxInt: api.ErrUndef} {
		m := begun(t, program(address(1, siteBig), load(2, 1, 8), op(api.OpFree, 2, 0, 0)), enough)
		b, _ := m.Mem().Alloc(site, 8, true)
		m.Mem().Store(ptr(blockBig, 0), 8, ptr(b, 0))
		stepped(t, m, 2)
		wantMoment(t, m, plain(2, want))
		wantBlock(t, m.Mem(), b, site, 8, want != api.OK)
	}
}

// A part may come from outside that no pointer has.
func TestPartsOfNoPointer(t *testing.T) {
	for _, last := range []api.Insn{op(api.OpFree, 2, 0, 0), branch(2, 0), malloc(3, 2), callAt(3, 2), binary(3, "==", 2, 0), index(3, 0, 2, 1), add(3, 2, 0)} {
		for _, v := range []api.Value{part(0, 0, 3), part(0, 1, 8), part(-1, 0, 1)} {
			m := begun(t, program(address(1, siteBig), load(2, 1, 1), last), enough)
			m.Mem().Store(ptr(blockBig, 0), 1, v)
			stepped(t, m, 2)
			wantRegister(t, m, 2, v)
			wantMoment(t, m, plain(2, api.ErrUndef))
		}
	}
}

func TestMachinesThatNewDidNotReturn(t *testing.T) {
	for _, m := range []*mach.Machine{{}, new(mach.Machine)} {
		for range 2 {
			wantMoment(t, m, ended)
			wantDepth(t, m, 0)
			wantFrame(t, m, 0, 0, 0)
			wantResult(t, m, num(0))
			m.Mem()
		}
	}
}

// oddInsn returns an instruction all of whose operands are one number.
func oddInsn(k, n int, sign string) api.Insn {
	return api.Insn{Op: k, A: n, B: n, C: n, W: n, N: int64(n), Sign: sign, Args: []int{n}}
}

func TestEveryCallEnds(t *testing.T) {
	ints := []int{math.MinInt, -1, 0, 1, 2, 3, 4, 5, 8, 9, 10, 4096, 4097, math.MaxInt}
	for k := -1; k < 23; k++ {
		for _, n := range ints {
			for _, sign := range []string{"", "-", "~", "<<"} {
				p := program(oddInsn(k, n, sign))
				m, e := mach.New(p, api.Script{Fuel: n, Input: []int64{int64(n)}, Fails: []bool{true}})
				if (m == nil) == (e == api.OK) {
					t.Fatalf("%v, %d", m, e)
				}
				for range 30 {
					m.Step()
					m.Frame(n)
				}
			}
		}
	}
	for _, n := range ints {
		for _, site := range []int{0, 1, 3, 4, 5, 7, 9} {
			for kind := -1; kind < 6; kind++ {
				p := program(address(1, siteLocal), call(2, fnF, 1, 1))
				p.Sites[site].Kind, p.Sites[site].Size, p.Sites[site].Func = kind, n, 1
				m, _ := mach.New(p, enough)
				for range 9 {
					m.Step()
				}
			}
		}
	}
}

// Types of sites are not the machine's concern, also those that hold themselves.
func TestAnyTypes(t *testing.T) {
	x := api.T{Kind: api.TPtr, Of: make([]api.T, 1)}
	x.Of[0] = x
	p := program(constant(1, 2))
	for k := range p.Sites {
		p.Sites[k].T = x
	}
	stepped(t, begun(t, p, enough), 2)
}

func TestGreatestFunctions(t *testing.T) {
	p := program()
	for n := range p.Fns {
		f := &p.Fns[n]
		f.Regs, f.Code = api.MaxRegs, nil
		for len(f.Code) < api.MaxCode-1 {
			f.Code = append(f.Code, add(api.MaxRegs-1, api.MaxRegs-1, 1))
		}
		f.Code = append(f.Code, leave(api.MaxRegs-1))
	}
	m := begun(t, p, enough)
	stepped(t, m, api.MaxCode)
	wantMoment(t, m, ended)
	wantResult(t, m, num(api.MaxCode-1))
}
