package run_test

import (
	"math"
	"math/rand/v2"
	"reflect"
	"slices"
	"sync"
	"testing"

	"crosstree/api"
	"crosstree/run"
)

// R1, R3, R4 and P1: whose memory it is, that runs are apart, and that every call ends.

func copyOf(p api.Prog) api.Prog {
	p.Sites, p.Fns = slices.Clone(p.Sites), slices.Clone(p.Fns)
	for n, f := range p.Fns {
		f.Locals, f.Code = slices.Clone(f.Locals), slices.Clone(f.Code)
		for pc, i := range f.Code {
			f.Code[pc].Args = slices.Clone(i.Args)
		}
		p.Fns[n] = f
	}
	return p
}

func TestArgumentsStay(t *testing.T) {
	r := maker{rand.New(rand.NewPCG(12, 2))}
	for range 2000 {
		p, s := r.prog(), r.script()
		s.Fails = []bool{true, false}
		other, input, fails := copyOf(p), slices.Clone(s.Input), slices.Clone(s.Fails)
		run.Run(p, s)
		if !reflect.DeepEqual(p, other) || !slices.Equal(s.Input, input) || !slices.Equal(s.Fails, fails) {
			t.Fatalf("%+v became %+v", other, p)
		}
	}
}

// The same run always tells the same, also while others are at work, and no answer is another one's memory.
func TestRunsAreApart(t *testing.T) {
	p := chain(9)
	first, _ := run.Run(p, enough)
	want := api.Trace{Calls: slices.Clone(first.Calls), Entered: slices.Clone(first.Entered), Steps: first.Steps, Err: first.Err, Result: first.Result}
	for k := range first.Calls {
		first.Calls[k] = edge(-7, -7, -7)
	}
	for k := range first.Entered {
		first.Entered[k] = -7
	}
	var all sync.WaitGroup
	for range 20 {
		all.Go(func() { wantTrace(t, p, enough, want) })
	}
	all.Wait()
}

// Behind a call that has an error, another one answers as if there had been none.
func TestNothingIsKept(t *testing.T) {
	p := program(0, function(0, call(0, 1)), function(0))
	for range 3 {
		wantTrace(t, p, enough, api.Trace{Calls: []api.Edge{edge(0, 0, 1)}, Entered: []int{0, 1}, Steps: 3, Err: api.ErrNone})
		wantNoTrace(t, "no functions", api.Prog{}, enough, api.ErrRange)
		wantTrace(t, program(0, function(0)), enough, api.Trace{Entered: []int{0}, Steps: 1, Err: api.ErrNone})
	}
}

func TestEveryCallEnds(t *testing.T) {
	ints := []int{math.MinInt, -1, 0, 1, 2, 3, 5, 6, 8, 4096, 4097, math.MaxInt}
	for k := -1; k < 23; k++ {
		for _, n := range ints {
			for _, sign := range []string{"", "-", "<<"} {
				odd := api.Insn{Op: k, A: n, B: n, C: n, W: n, N: int64(n), Sign: sign, Args: []int{n}}
				s := api.Script{Fuel: n, Input: []int64{int64(n)}, Fails: []bool{true}}
				run.Run(program(0, function(0, odd), function(1, odd)), s)
				run.Run(program(n, function(0, odd)), s)
			}
		}
	}
	for _, n := range ints {
		p := program(0, function(0))
		p.Fns[0].Regs, p.Fns[0].Params, p.Fns[0].Locals = n, n, []int{n}
		run.Run(p, enough)
		run.Less(edge(n, n, n), edge(-n, n, -n))
	}
}

// Types of sites are not the run's concern, also those that hold themselves.
func TestAnyTypes(t *testing.T) {
	x := api.T{Kind: api.TPtr, Of: make([]api.T, 1)}
	x.Of[0] = x
	p := program(0, function(0))
	p.Sites[0].T = x
	wantTrace(t, p, enough, api.Trace{Entered: []int{0}, Steps: 1, Err: api.ErrNone})
}

// The most functions, frames and steps that there may be.
func TestGreatestRuns(t *testing.T) {
	var functions []api.Fn
	for n := range api.MaxFrames {
		functions = append(functions, function(0, call(0, (n+1)%api.MaxFrames)))
	}
	wantAsReference(t, program(7, functions...), enough)
	var code []api.Insn
	for n := range api.MaxCode - 2 {
		code = append(code, call(0, 1+n%(api.MaxFrames-1)))
	}
	functions = []api.Fn{function(0, append(code, jump(0))...)}
	for len(functions) < api.MaxFrames {
		functions = append(functions, function(0))
	}
	x, _ := wantAsReference(t, program(0, functions...), enough)
	if len(x.Calls) != api.MaxCode-2 || len(x.Entered) != api.MaxFrames || x.Steps != api.MaxFuel {
		t.Errorf("%d calls, %d functions, %d steps", len(x.Calls), len(x.Entered), x.Steps)
	}
}
