package run_test

import (
	"math/rand/v2"
	"slices"
	"testing"

	"crosstree/api"
	"crosstree/mach"
	"crosstree/run"
)

// A second run, which doesn't ask the steps which function they called but looks at the frames: a call is where there is one more. Run is held against it.

// reference returns the trace of a run.
func reference(p api.Prog, s api.Script) (api.Trace, api.Errno) {
	m, e := mach.New(p, s)
	if e != api.OK {
		return api.Trace{}, e
	}
	x := api.Trace{Entered: []int{p.Main}}
	for x.Err == api.OK {
		depth := m.Depth()
		if x.Err = m.Step().Err; x.Err == api.OK {
			x.Steps++
		}
		if m.Depth() > depth {
			from, pc, _ := m.Frame(depth - 1)
			to, _, _ := m.Frame(depth)
			x.Calls = inserted(x.Calls, edge(from, pc, to), below)
			x.Entered = inserted(x.Entered, to, func(a, b int) bool { return a < b })
		}
	}
	x.Result = m.Result()
	return x, api.OK
}

// inserted returns an ascending list that has x too.
func inserted[E comparable](l []E, x E, below func(a, b E) bool) []E {
	at := 0
	for at < len(l) && below(l[at], x) {
		at++
	}
	if at < len(l) && l[at] == x {
		return l
	}
	return slices.Insert(l, at, x)
}

func below(a, b api.Edge) bool {
	if a.From != b.From {
		return a.From < b.From
	}
	if a.Pc != b.Pc {
		return a.Pc < b.Pc
	}
	return a.To < b.To
}

// wantAsReference returns the trace and the error of Run.
func wantAsReference(t *testing.T, p api.Prog, s api.Script) (api.Trace, api.Errno) {
	t.Helper()
	x, e := run.Run(p, s)
	if want, other := reference(p, s); e != other || !same(x, want) {
		t.Fatalf("%+v, %d, not %+v, %d, for %+v, %+v", x, e, want, other, p, s)
	}
	if e == api.OK {
		wantConsequences(t, p, s, x)
	}
	return x, e
}

// wantConsequences holds P12.3, and what P12.1 says of lists.
func wantConsequences(t *testing.T, p api.Prog, s api.Script, x api.Trace) {
	t.Helper()
	if x.Steps > max(0, s.Fuel) || x.Steps > api.MaxFuel || x.Err == api.OK {
		t.Fatalf("%+v, with the fuel %d", x, s.Fuel)
	}
	for k := range x.Calls {
		if k > 0 && !run.Less(x.Calls[k-1], x.Calls[k]) {
			t.Fatalf("%v don't ascend", x.Calls)
		}
	}
	for k, n := range x.Entered {
		if k > 0 && x.Entered[k-1] >= n {
			t.Fatalf("%v don't ascend", x.Entered)
		}
		called := slices.ContainsFunc(x.Calls, func(c api.Edge) bool { return c.To == n && slices.Contains(x.Entered, c.From) })
		if n != p.Main && !called {
			t.Fatalf("%d was entered, and called by none of %v", n, x.Calls)
		}
	}
	if !slices.Contains(x.Entered, p.Main) {
		t.Fatalf("%d was not entered", p.Main)
	}
	for _, c := range x.Calls {
		if !slices.Contains(x.Entered, c.From) || !slices.Contains(x.Entered, c.To) {
			t.Fatalf("%v is a call, and %v were entered", c, x.Entered)
		}
	}
}

type maker struct{ *rand.Rand }

// some picks one of a list.
func some[E any](r maker, l ...E) E {
	return l[r.IntN(len(l))]
}

// args returns the registers of so many arguments, and now and then of another number of them.
func (r maker) args(params int) []int {
	if r.IntN(80) == 0 {
		params = r.IntN(4)
	}
	l := make([]int, params)
	for k := range l {
		l[k] = r.IntN(6)
	}
	return l
}

// called returns a function that this one may call: most often one behind it, so that not all programs call themselves without end.
func (r maker) called(fn, functions int) int {
	if r.IntN(12) == 0 || fn == functions-1 {
		return r.IntN(functions)
	}
	return fn + 1 + r.IntN(functions-1-fn)
}

// insns returns some instructions of a function that belong together, most often ones that call. The registers 0 to 3 have numbers, the others functions.
func (r maker) insns(fn, functions, length int) []api.Insn {
	to, at := r.called(fn, functions), 4+r.IntN(2)
	if fn == functions-1 && r.IntN(3) > 0 {
		return []api.Insn{constant(r.IntN(4), int64(r.IntN(3)))}
	}
	switch r.IntN(12) {
	case 0, 1, 9:
		l := r.args(0)
		for len(l) < to%3 {
			l = append(l, r.IntN(6))
		}
		return []api.Insn{call(r.IntN(4), to, l[:to%3]...)}
	case 2, 3, 10:
		return []api.Insn{address(at, to), callAt(r.IntN(4), at, r.args(to%3)...)}
	case 4:
		return []api.Insn{some(r, address(at, to), callAt(r.IntN(4), at, r.args(r.IntN(3))...))}
	case 5:
		return []api.Insn{some(r, leave(r.IntN(7)-1), address(at, to), address(at, to), address(at, to))}
	case 6:
		return []api.Insn{op(api.OpInput, 0, 0, 0), branch(0, int64(r.IntN(length)))}
	case 7:
		return []api.Insn{branch(r.IntN(6), int64(r.IntN(length))), jump(int64(r.IntN(length)))}
	}
	return []api.Insn{constant(r.IntN(4), int64(r.IntN(3)))}
}

// prog returns a program whose n-th function has as many parameters as n modulo 3.
func (r maker) prog() api.Prog {
	count := 1 + r.IntN(7)
	var functions []api.Fn
	for n := range count {
		length := 3 + r.IntN(12)
		code := []api.Insn{address(4, r.called(n, count)), address(5, r.called(n, count))}
		for len(code) < length {
			code = append(code, r.insns(n, count, length+1)...)
		}
		functions = append(functions, function(n%3, code...))
	}
	p := program(some(r, 0, 0, r.IntN(count)), functions...)
	for r.IntN(3) == 0 {
		p = withLocal(p, r.IntN(count), some(r, 8, 8, 8, 8, 4, 4096, -1, 4097))
	}
	return p
}

func (r maker) script() api.Script {
	s := api.Script{Fuel: some(r, -1, 0, 1, 20, 80, 400, 3000)}
	for range r.IntN(30) {
		s.Input = append(s.Input, int64(r.IntN(2)))
	}
	return s
}

func TestRandomProgramsAsReference(t *testing.T) {
	r := maker{rand.New(rand.NewPCG(12, 1))}
	ends, begins, calls := map[api.Errno]int{}, map[api.Errno]int{}, map[int]int{}
	for range 30000 {
		x, e := wantAsReference(t, r.prog(), r.script())
		begins[e]++
		ends[x.Err]++
		calls[min(len(x.Calls), 9)]++
	}
	for _, e := range []api.Errno{api.ErrNone, api.ErrBudget, api.ErrUndef, api.ErrRange, api.ErrSize} {
		if ends[e] < 100 {
			t.Errorf("only %d of all random runs end with %d", ends[e], e)
		}
	}
	if begins[api.OK] < 20000 || begins[api.ErrSize] < 100 {
		t.Errorf("the runs begin with %v", begins)
	}
	for n := range 10 {
		if calls[n] < 50 {
			t.Errorf("only %d of all random runs have %d calls", calls[n], n)
		}
	}
}

func TestSourcesAsReference(t *testing.T) {
	for _, c := range []struct {
		source  string
		end     api.Errno
		value   int64
		calls   int
		entered []int
	}{
		{"int main() { return 42; }", api.ErrNone, 42, 0, []int{0}},
		{"int even(int n) { if (n == 0) return 1; return odd(n - 1); } int odd(int n) { if (n == 0) return 0; return even(n - 1); } int main() { return even(30) * 10 + odd(7); }", api.ErrNone, 11, 4, []int{0, 1, 2}},
		{"int twice(int x) { return x * 2; } int minus(int x) { return -x; } int (*t[2])(int); int main() { t[0] = twice; t[1] = &minus; int i = 0; int s = 0; while (i < 2) { s = s + t[i](21); i = i + 1; } return s; }", api.ErrNone, 21, 2, []int{0, 1, 2}},
		{"int f(int n) { return f(n + 1); } int main() { return f(0); }", api.ErrRange, 0, 2, []int{0, 1}},
		{"int main() { return dead(0); } int dead(int x) { if (x) return other(); return 3; } int other() { return 4; }", api.ErrNone, 3, 1, []int{0, 1}},
		{"int f() { return 1; } int main() { int (*p)(); int x; x = f(); p = 0; return p(); }", api.ErrUndef, 0, 1, []int{0, 1}},
		{"int f() { while (1) g(); return 0; } void g() { } int main() { return f(); }", api.ErrBudget, 0, 2, []int{0, 1, 2}},
		{"int main() { if (input()) return main(); return input(); }", api.ErrNone, 9, 1, []int{0}},
		{"void *c(void *p) { return p; } int main() { void *p = malloc(8); long *l = c(p); *l = 6; int v = *l; free(c(l)); return v; }", api.ErrNone, 6, 2, []int{0, 1}},
	} {
		x, e := wantAsReference(t, lowered(t, c.source), api.Script{Input: []int64{1, 0, 9}, Fuel: 5000})
		if e != api.OK || x.Err != c.end || x.Result != num(c.value) || len(x.Calls) != c.calls || !slices.Equal(x.Entered, c.entered) {
			t.Errorf("%q: %+v, %d", c.source, x, e)
		}
	}
}

// Each fuel makes a run that is the beginning of the one with more.
func TestEachFuel(t *testing.T) {
	p := lowered(t, "int f(int n) { if (n == 0) return 1; return g(n) + f(n - 1); } int g(int n) { if (n % 2) return n; return f(0); } int main() { return f(4) + g(1); }")
	all, _ := wantAsReference(t, p, enough)
	if all.Err != api.ErrNone {
		t.Fatalf("%+v", all)
	}
	for fuel := range all.Steps + 3 {
		x, _ := wantAsReference(t, p, api.Script{Fuel: fuel})
		if x.Steps != min(fuel, all.Steps) || (x.Err == api.ErrNone) != (fuel >= all.Steps) {
			t.Errorf("the fuel %d: %+v", fuel, x)
		}
		if slices.ContainsFunc(x.Calls, func(c api.Edge) bool { return !slices.Contains(all.Calls, c) }) {
			t.Errorf("the fuel %d: %v, beyond %v", fuel, x.Calls, all.Calls)
		}
	}
}
