package gen_test

import (
	"math"
	"math/rand/v2"
	"reflect"
	"slices"
	"sync"
	"testing"

	"crosstree/api"
	"crosstree/gen"
)

// R2 to R5 and P1: whose memory it is, and that every call ends.

func copyOfProg(p api.Prog) api.Prog {
	p.Sites, p.Fns = slices.Clone(p.Sites), slices.Clone(p.Fns)
	for n, f := range p.Fns {
		f.Locals, f.Code = slices.Clone(f.Locals), slices.Clone(f.Code)
		for pc, i := range f.Code {
			f.Code[pc].Args = slices.Clone(i.Args)
		}
		p.Fns[n] = f
	}
	return p
}

func TestArgumentsAreLeftAlone(t *testing.T) {
	m := maker{rand.New(rand.NewPCG(17, 2))}
	for range 500 {
		p := m.prog()
		before := copyOfProg(p)
		gen.Vars(p)
		gen.Gen(p)
		if !reflect.DeepEqual(p, before) {
			t.Fatalf("%v was changed to %v", before, p)
		}
	}
}

// spoil overwrites a list, and what lies behind it.
func spoil(l []int) {
	l = l[:cap(l)]
	for i := range l {
		l[i] = -7
	}
}

// spoilArgs overwrites the lists that a program holds.
func spoilArgs(p api.Prog) {
	for _, f := range p.Fns {
		spoil(f.Locals)
		for pc, i := range f.Code {
			spoil(i.Args)
			f.Code[pc] = api.Insn{Op: api.OpAddr, A: 77}
		}
	}
}

func copyOfCons(l []api.Con) []api.Con {
	l = slices.Clone(l)
	for k, c := range l {
		l[k].Args = slices.Clone(c.Args)
	}
	return l
}

func TestAnswersAreTheCallers(t *testing.T) {
	m := maker{rand.New(rand.NewPCG(17, 3))}
	for range 500 {
		p := m.prog()
		// One list of Args may stand in several instructions.
		f := &p.Fns[0]
		args := make([]int, m.IntN(7), 9)
		f.Code = append([]api.Insn{{Op: api.OpCallP, Args: args}, {Op: api.OpCallP, Args: args}}, f.Code...)
		before := copyOfProg(p)
		want := reference(before)
		first, _ := gen.Vars(p)
		cons, others := gen.Gen(p), gen.Gen(p)
		if !slices.EqualFunc(cons, want, same) {
			t.Fatalf("Gen(%v) = %v, want %v", p, cons, want)
		}
		// Each list of an answer by itself: what becomes of one is nothing to the others.
		for k, c := range others {
			kept := copyOfCons(others)
			spoil(c.Args)
			kept[k].Args = c.Args
			if !slices.EqualFunc(others, kept, same) {
				t.Fatalf("the constraints became %v with the Args of %d", others, k)
			}
		}
		other, _ := gen.Vars(p)
		spoil(other)
		if !reflect.DeepEqual(p, before) {
			t.Fatalf("%v became %v with an answer", before, p)
		}
		spoilArgs(p)
		if _, numbered := numbers(before); !slices.Equal(first, numbered) || !slices.EqualFunc(cons, want, same) {
			t.Fatalf("answers became %v and %v", first, cons)
		}
		wantAsReference(t, before)
	}
}

// Many may ask about one program at once.
func TestManyAtOnce(t *testing.T) {
	p := program(t, sources()[3])
	want := reference(p)
	var all sync.WaitGroup
	for range 8 {
		all.Go(func() {
			for range 100 {
				if l := gen.Gen(p); !slices.EqualFunc(l, want, same) {
					t.Errorf("Gen = %v, want %v", l, want)
				}
			}
		})
	}
	all.Wait()
}

func TestNilAndEmptyLists(t *testing.T) {
	for _, l := range [][]int{nil, {}} {
		wantInsn(t, api.Insn{Op: api.OpCall, A: 1, N: 2, Args: l}, copied(6, 11))
		wantInsn(t, api.Insn{Op: api.OpCallP, A: 1, B: 2, Args: l}, api.Con{Kind: api.ConCall, A: 6, B: 7})
		p := prog(api.Insn{Op: api.OpAddr})
		p.Fns[1].Locals = l
		wantCons(t, p, api.Con{Kind: api.ConBase, A: first1, Fn: 1, Pc: 2})
	}
}

// The greatest programs: as many functions, instructions and registers as may be, and a call with as many Args as registers.
func TestTheGreatestPrograms(t *testing.T) {
	const functions, most = 200, 4000
	args := make([]int, most)
	for k := range args {
		args[k] = most - 1 - k
	}
	code := slices.Repeat([]api.Insn{{Op: api.OpBin, Sign: "+", A: 1, B: most - 1}}, most)
	code[most-2] = api.Insn{Op: api.OpCall, N: functions - 1, Args: args}
	code[most-1] = stop
	p := api.Prog{Main: functions - 1}
	for n := range functions {
		p.Sites = append(p.Sites, api.Site{Kind: api.SiteFunc, Func: n})
		p.Fns = append(p.Fns, api.Fn{Regs: most, Params: most, Code: code})
	}
	first, all := gen.Vars(p)
	if len(first) != functions || first[functions-1] != (functions-1)*(most+1) || all != functions*(most+1) {
		t.Errorf("Vars = %v, %d", first, all)
	}
	l := gen.Gen(p)
	const each = 2*(most-2) + most + 1
	if len(l) != functions*each {
		t.Fatalf("%d constraints", len(l))
	}
	for n := range functions {
		for k, want := range map[int]api.Con{
			0:        {Kind: api.ConAny, A: 1, B: most - 1, N: 1},
			1:        {Kind: api.ConAny, A: 1, N: 1},
			each - 3: {Kind: api.ConCopy, A: first[functions-1] + most - 2 - first[n], B: 1, Pc: most - 2},
			each - 2: {Kind: api.ConCopy, A: first[functions-1] + most - 1 - first[n], B: 0, Pc: most - 2},
			each - 1: {Kind: api.ConCopy, B: all - 1 - first[n], Pc: most - 2},
		} {
			want.A, want.B, want.Fn = want.A+first[n], want.B+first[n], n
			if c := l[n*each+k]; !same(c, want) {
				t.Errorf("%d of the function %d is %v, want %v", k, n, c, want)
			}
		}
	}
}

// Programs that aren't well-formed, which the chapter doesn't cover: every call ends.
func TestEveryCallEnds(t *testing.T) {
	m := maker{rand.New(rand.NewPCG(17, 4))}
	ints := []int{math.MinInt, math.MinInt + 1, -4097, -2, -1, 0, 1, 2, 3, 4, 8, 600, 4096, 4097, 1 << 32, math.MaxInt - 1, math.MaxInt}
	number := func() int { return some(m, ints...) }
	for range 50000 {
		p := api.Prog{Main: number()}
		for range m.IntN(3) {
			p.Sites = append(p.Sites, api.Site{Kind: number(), Size: number(), Func: number()})
		}
		for range m.IntN(4) {
			f := api.Fn{Regs: number(), Params: number(), Locals: []int{number()}}
			for range m.IntN(4) {
				f.Code = append(f.Code, api.Insn{Op: m.IntN(24) - 1, A: number(), B: number(), C: number(), W: number(), N: int64(number()), Sign: some(m, "", "+", "-", "x"), Args: []int{number(), number()}[:m.IntN(3)]})
			}
			p.Fns = append(p.Fns, f)
		}
		if first, _ := gen.Vars(p); len(first) != len(p.Fns) {
			t.Fatalf("Vars(%v) = %v", p, first)
		}
		for _, c := range gen.Gen(p) {
			wantEmptyFields(t, c)
		}
	}
}
