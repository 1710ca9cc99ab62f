package run_test

import (
	"math"
	"reflect"
	"slices"
	"testing"

	"crosstree/api"
	"crosstree/check"
	"crosstree/lower"
	"crosstree/parse"
	"crosstree/run"
)

// P12.1 and P12.2: whole runs, and the order of edges.

func num(n int64) api.Value { return api.Value{N: n} }

func op(op, a, b, c int) api.Insn { return api.Insn{Op: op, A: a, B: b, C: c} }

func constant(a int, n int64) api.Insn { return api.Insn{Op: api.OpConst, A: a, N: n} }

func address(a, site int) api.Insn { return api.Insn{Op: api.OpAddr, A: a, B: site} }

func call(a, n int, args ...int) api.Insn {
	return api.Insn{Op: api.OpCall, A: a, N: int64(n), Args: args}
}

func callAt(a, b int, args ...int) api.Insn {
	return api.Insn{Op: api.OpCallP, A: a, B: b, Args: args}
}

func jump(n int64) api.Insn { return api.Insn{Op: api.OpJump, N: n} }

func branch(a int, n int64) api.Insn { return api.Insn{Op: api.OpIf, A: a, N: n} }

func leave(a int) api.Insn { return api.Insn{Op: api.OpReturn, A: a} }

// function returns one of 6 registers, which returns nothing behind this code.
func function(params int, code ...api.Insn) api.Fn {
	return api.Fn{Regs: 6, Params: params, Code: append(slices.Clone(code), leave(-1))}
}

// program returns one of these functions, with their sites and no other.
func program(main int, functions ...api.Fn) api.Prog {
	p := api.Prog{Fns: functions, Main: main}
	for n := range functions {
		p.Sites = append(p.Sites, api.Site{Kind: api.SiteFunc, Func: n})
	}
	return p
}

// withLocal gives a function one more local, of a new site.
func withLocal(p api.Prog, fn, size int) api.Prog {
	p.Fns[fn].Locals = append(slices.Clone(p.Fns[fn].Locals), len(p.Sites))
	p.Sites = append(p.Sites, api.Site{Kind: api.SiteLocal, Size: size, Func: fn})
	return p
}

func lowered(t *testing.T, source string) api.Prog {
	t.Helper()
	n, _, e := parse.Parse(source)
	u, recs, _, f := check.Check(n)
	p, g := lower.Lower(u, recs)
	if e != api.OK || f != api.OK || g != api.OK {
		t.Fatalf("%q: %d, %d, %d", source, e, f, g)
	}
	return p
}

var enough = api.Script{Fuel: api.MaxFuel}

func edge(from, pc, to int) api.Edge { return api.Edge{From: from, Pc: pc, To: to} }

// same compares two traces, where nil and empty lists are the same.
func same(a, b api.Trace) bool {
	lists := slices.Equal(a.Calls, b.Calls) && slices.Equal(a.Entered, b.Entered)
	return lists && a.Steps == b.Steps && a.Err == b.Err && a.Result == b.Result
}

func wantTrace(t *testing.T, p api.Prog, s api.Script, want api.Trace) {
	t.Helper()
	if x, e := run.Run(p, s); e != api.OK || !same(x, want) {
		t.Errorf("Run: %+v, %d, not %+v", x, e, want)
	}
}

func wantNoTrace(t *testing.T, what string, p api.Prog, s api.Script, want api.Errno) {
	t.Helper()
	if x, e := run.Run(p, s); e != want || !reflect.DeepEqual(x, api.Trace{}) {
		t.Errorf("%s: Run: %+v, %d, not %d", what, x, e, want)
	}
}

// callsOf returns the indexes of a function's instructions that call.
func callsOf(f api.Fn) []int {
	var l []int
	for pc, i := range f.Code {
		if i.Op == api.OpCall || i.Op == api.OpCallP {
			l = append(l, pc)
		}
	}
	return l
}

func TestTwoCallsOfOneFunction(t *testing.T) {
	p := lowered(t, "int f() { return 1; } int main() { return f() + f(); }")
	at := callsOf(p.Fns[1])
	// f: OpConst, OpFit, OpReturn; main: OpCall, OpCall, OpBin, OpFit, OpReturn
	wantTrace(t, p, enough, api.Trace{
		Calls: []api.Edge{edge(1, at[0], 0), edge(1, at[1], 0)}, Entered: []int{0, 1}, Steps: 11, Err: api.ErrNone, Result: num(2),
	})
}

func TestNoCalls(t *testing.T) {
	wantTrace(t, program(0, function(0, constant(0, 7), leave(0))), enough, api.Trace{Entered: []int{0}, Steps: 2, Err: api.ErrNone, Result: num(7)})
	wantTrace(t, program(0, function(0)), enough, api.Trace{Entered: []int{0}, Steps: 1, Err: api.ErrNone})
}

// Main is entered though nobody calls it, wherever it stands among the functions, and no other function is that nobody calls.
func TestMainIsEntered(t *testing.T) {
	for main := range 4 {
		p := program(main, function(0), function(0), function(0), function(0))
		wantTrace(t, p, enough, api.Trace{Entered: []int{main}, Steps: 1, Err: api.ErrNone})
	}
}

// One instruction that calls one function more than once makes one edge.
func TestEachCallOnce(t *testing.T) {
	p := lowered(t, "int f() { return 1; } int main() { int i = 0; while (i < 9) i = i + f(); return i; }")
	x, e := run.Run(p, enough)
	if e != api.OK || !slices.Equal(x.Calls, []api.Edge{edge(1, callsOf(p.Fns[1])[0], 0)}) || !slices.Equal(x.Entered, []int{0, 1}) || x.Result != num(9) {
		t.Errorf("%+v, %d", x, e)
	}
}

// One instruction may call several functions.
func TestCallsThroughAPointer(t *testing.T) {
	p := program(1, function(0), function(0,
		address(0, 2), constant(1, 1), callAt(2, 0), branch(1, 7), constant(1, 0), address(0, 0), jump(2),
	), function(0))
	wantTrace(t, p, enough, api.Trace{Calls: []api.Edge{edge(1, 2, 0), edge(1, 2, 2)}, Entered: []int{0, 1, 2}, Steps: 12, Err: api.ErrNone})
}

func TestCallsOfMainItself(t *testing.T) {
	p := program(0, function(0, op(api.OpInput, 0, 0, 0), branch(0, 3), call(1, 0)))
	calls := []api.Edge{edge(0, 2, 0)}
	wantTrace(t, p, api.Script{Input: []int64{5, 5}, Fuel: 99}, api.Trace{Calls: calls, Entered: []int{0}, Steps: 11, Err: api.ErrNone})
	wantTrace(t, p, api.Script{Fuel: 99}, api.Trace{Entered: []int{0}, Steps: 3, Err: api.ErrNone})
}

// chain returns a program of which each function calls those behind it, the last one first, and whose main is the first one.
func chain(functions int) api.Prog {
	l := []api.Fn{function(0)}
	for len(l) < functions {
		var code []api.Insn
		for n := functions - 1; n >= functions-len(l); n-- {
			code = append(code, call(0, n))
		}
		l = append([]api.Fn{function(0, code...)}, l...)
	}
	return program(0, l...)
}

func TestCallsAscend(t *testing.T) {
	const functions = 10
	x, e := run.Run(chain(functions), enough)
	var calls []api.Edge
	var entered []int
	for from := range functions {
		entered = append(entered, from)
		for pc := range functions - 1 - from {
			calls = append(calls, edge(from, pc, functions-1-pc))
		}
	}
	if e != api.OK || !slices.Equal(x.Calls, calls) || !slices.Equal(x.Entered, entered) || x.Err != api.ErrNone {
		t.Errorf("%+v, %d", x, e)
	}
}

// By From first, by Pc then, by To at last: here each of the three alone would tell otherwise.
func TestCallsAscendByLess(t *testing.T) {
	p := program(2,
		function(0, jump(5), leave(-1), leave(-1), leave(-1), leave(-1), call(0, 1)),
		function(0),
		function(0, address(0, 3), constant(1, 1), callAt(2, 0), branch(1, 7), constant(1, 0), address(0, 0), jump(2), call(0, 1)),
		function(0),
	)
	x, e := run.Run(p, enough)
	if e != api.OK || !slices.Equal(x.Calls, []api.Edge{edge(0, 5, 1), edge(2, 2, 0), edge(2, 2, 3), edge(2, 7, 1)}) || !slices.Equal(x.Entered, []int{0, 1, 2, 3}) {
		t.Errorf("%+v, %d", x, e)
	}
}

// A step that has an error counts nothing, and a call that has one enters nothing.
func TestCallsThatFail(t *testing.T) {
	alone := func(e api.Errno, steps int) api.Trace {
		return api.Trace{Entered: []int{0}, Steps: steps, Err: e}
	}
	wantTrace(t, program(0, function(0, address(0, 1), callAt(1, 0)), function(1)), enough, alone(api.ErrUndef, 1))
	wantTrace(t, program(0, function(0, callAt(1, 0)), function(0)), enough, alone(api.ErrUndef, 0))
	wantTrace(t, program(0, function(0, address(0, 1), op(api.OpAdd, 0, 0, 0), call(1, 1)), function(0)), api.Script{Fuel: 2}, alone(api.ErrBudget, 2))
	tooGreat := withLocal(program(0, function(0, call(0, 1)), function(0)), 1, api.MaxSize+1)
	wantTrace(t, tooGreat, enough, alone(api.ErrSize, 0))
	// What was called before stays told.
	p := program(0, function(0, call(0, 1), address(0, 2), callAt(1, 0)), function(0), function(1))
	wantTrace(t, p, enough, api.Trace{Calls: []api.Edge{edge(0, 0, 1)}, Entered: []int{0, 1}, Steps: 3, Err: api.ErrUndef})
}

func TestTooManyFrames(t *testing.T) {
	p := program(1, function(0, call(0, 0)), function(0, call(0, 0)))
	wantTrace(t, p, enough, api.Trace{Calls: []api.Edge{edge(0, 0, 0), edge(1, 0, 0)}, Entered: []int{0, 1}, Steps: api.MaxFrames - 1, Err: api.ErrRange})
}

func TestTooManyBlocks(t *testing.T) {
	p := withLocal(program(1, function(0), function(0, call(0, 0), jump(0))), 0, 8)
	free := api.MaxBlocks - 2 // the two functions have a block each
	wantTrace(t, p, enough, api.Trace{Calls: []api.Edge{edge(1, 0, 0)}, Entered: []int{0, 1}, Steps: 3 * free, Err: api.ErrSize})
}

func TestUndef(t *testing.T) {
	p := lowered(t, "int f(int x) { return 1 / x; } int main() { f(1); return f(0); }")
	at := callsOf(p.Fns[1])
	x, e := run.Run(p, enough)
	if e != api.OK || x.Err != api.ErrUndef || x.Result != num(0) || !slices.Equal(x.Calls, []api.Edge{edge(1, at[0], 0), edge(1, at[1], 0)}) {
		t.Errorf("%+v, %d", x, e)
	}
}

// Main takes three steps: whoever has fuel for them has its result, and a step behind them is no other error.
func TestFuel(t *testing.T) {
	p := program(0, function(0, constant(0, 7), constant(1, 8), leave(1)))
	all := api.Trace{Entered: []int{0}, Steps: 3, Err: api.ErrNone, Result: num(8)}
	for _, fuel := range []int{3, 4, api.MaxFuel, api.MaxFuel + 1, math.MaxInt} {
		wantTrace(t, p, api.Script{Fuel: fuel}, all)
	}
	for fuel, steps := range map[int]int{2: 2, 1: 1, 0: 0, -1: 0, math.MinInt: 0} {
		wantTrace(t, p, api.Script{Fuel: fuel}, api.Trace{Entered: []int{0}, Steps: steps, Err: api.ErrBudget})
	}
}

func TestMostFuel(t *testing.T) {
	p := program(0, function(0, call(0, 1), jump(0)), function(0))
	for _, fuel := range []int{api.MaxFuel, api.MaxFuel + 1, math.MaxInt} {
		wantTrace(t, p, api.Script{Fuel: fuel}, api.Trace{Calls: []api.Edge{edge(0, 0, 1)}, Entered: []int{0, 1}, Steps: api.MaxFuel, Err: api.ErrBudget})
	}
	wantTrace(t, p, api.Script{Fuel: 1}, api.Trace{Calls: []api.Edge{edge(0, 0, 1)}, Entered: []int{0, 1}, Steps: 1, Err: api.ErrBudget})
}

// The result is what main returned, of any kind, and not what another function did.
func TestResults(t *testing.T) {
	p := program(0, function(0, address(0, 1), leave(0)), function(0))
	wantTrace(t, p, enough, api.Trace{Entered: []int{0}, Steps: 2, Err: api.ErrNone, Result: api.Value{Block: 2}})
	p = program(0, function(0, call(0, 1)), function(0, constant(0, 5), leave(0)))
	wantTrace(t, p, enough, api.Trace{Calls: []api.Edge{edge(0, 0, 1)}, Entered: []int{0, 1}, Steps: 4, Err: api.ErrNone})
	wantTrace(t, p, api.Script{Fuel: 3}, api.Trace{Calls: []api.Edge{edge(0, 0, 1)}, Entered: []int{0, 1}, Steps: 3, Err: api.ErrBudget})
	p = program(0, function(0, op(api.OpInput, 0, 0, 0), leave(0)))
	wantTrace(t, p, api.Script{Input: []int64{math.MinInt64}, Fuel: 2}, api.Trace{Entered: []int{0}, Steps: 2, Err: api.ErrNone, Result: num(math.MinInt64)})
}

// A script may make allocations fail.
func TestFails(t *testing.T) {
	p := lowered(t, "int no() { return 0; } int main() { int *p = malloc(4); if (p == 0) return no(); free(p); return 3; }")
	at := callsOf(p.Fns[1])
	x, e := run.Run(p, api.Script{Fails: []bool{true}, Fuel: 99})
	if e != api.OK || x.Err != api.ErrNone || x.Result != num(0) || !slices.Equal(x.Calls, []api.Edge{edge(1, at[0], 0)}) {
		t.Errorf("%+v, %d", x, e)
	}
	x, e = run.Run(p, api.Script{Fails: []bool{false, true}, Fuel: 99})
	if e != api.OK || x.Err != api.ErrNone || x.Result != num(3) || len(x.Calls) != 0 || !slices.Equal(x.Entered, []int{1}) {
		t.Errorf("%+v, %d", x, e)
	}
}

// Where there is no machine there is no trace.
func TestErrorsOfNew(t *testing.T) {
	wantNoTrace(t, "no functions", api.Prog{}, api.Script{}, api.ErrRange)
	wantNoTrace(t, "main beyond the functions", program(1, function(0)), enough, api.ErrRange)
	wantNoTrace(t, "main below 0", program(-1, function(0)), enough, api.ErrRange)
	wantNoTrace(t, "no such operation", program(0, function(0, op(99, 0, 0, 0))), enough, api.ErrArg)
	wantNoTrace(t, "no such register", program(0, function(0, constant(6, 1))), enough, api.ErrRange)
	wantNoTrace(t, "no code", program(0, api.Fn{}), enough, api.ErrSize)
	wantNoTrace(t, "no such function", program(0, function(0, call(0, 1))), enough, api.ErrRange)
	wantNoTrace(t, "an argument too many", program(0, function(0, call(0, 0, 1))), enough, api.ErrRange)
	wantNoTrace(t, "a local of main that is too great", withLocal(program(0, function(0)), 0, api.MaxSize+1), enough, api.ErrSize)
	p := program(0, function(0))
	p.Sites = append(p.Sites, api.Site{Kind: api.SiteGlobal, Size: -1})
	wantNoTrace(t, "a global below 0 bytes", p, enough, api.ErrSize)
	wantNoTrace(t, "no fuel either", p, api.Script{}, api.ErrSize)
}

func TestLess(t *testing.T) {
	ascending := []api.Edge{
		edge(math.MinInt, 5, 5), edge(-1, 9, 9), edge(0, math.MinInt, 3), edge(0, -2, math.MaxInt), edge(0, 0, math.MinInt), edge(0, 0, 0),
		edge(0, 0, 1), edge(0, 0, math.MaxInt), edge(0, 1, -1), edge(0, math.MaxInt, 0), edge(1, 0, 0), edge(1, 0, 2), edge(1, 2, 0), edge(math.MaxInt, math.MinInt, math.MinInt),
	}
	for i, a := range ascending {
		for k, b := range ascending {
			if run.Less(a, b) != (i < k) {
				t.Errorf("Less(%v, %v) is %t", a, b, i >= k)
			}
		}
	}
}

func TestLessOfAllSmallEdges(t *testing.T) {
	var l []api.Edge
	for k := range 64 {
		l = append(l, edge(k/16-1, k/4%4-1, k%4-1))
	}
	for i, a := range l {
		for k, b := range l {
			if run.Less(a, b) != (i < k) {
				t.Errorf("Less(%v, %v) is %t", a, b, i >= k)
			}
		}
	}
}
