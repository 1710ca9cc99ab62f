package mach_test

import (
	"math"
	"math/big"
	"math/rand/v2"
	"slices"
	"testing"

	"crosstree/api"
	"crosstree/check"
	"crosstree/lower"
	"crosstree/mach"
	"crosstree/mem"
	"crosstree/parse"
)

// A second machine, written as the chapter's definitions stand there: numbers are mathematical integers, the sites' blocks are counted anew each time, and nothing is copied. Every function is held against it.

func isNum(v api.Value) bool  { return v.Block == 0 && v.Frag == 0 }
func isPtr(v api.Value) bool  { return v.Block > 0 && v.Frag == 0 }
func isPart(v api.Value) bool { return v.Frag >= 1 && v.Frag <= 8 }

// signed is a mathematical integer modulo 2^bits, from -2^(bits-1) on.
func signed(x *big.Int, bits uint) api.Value {
	one := big.NewInt(1)
	r := new(big.Int).Mod(x, new(big.Int).Lsh(one, bits))
	if r.Bit(int(bits-1)) == 1 {
		r.Sub(r, new(big.Int).Lsh(one, bits))
	}
	return num(r.Int64())
}

func truth(holds bool) told {
	if holds {
		return ok(num(1))
	}
	return ok(num(0))
}

func refNumbers(sign string, a, b int64) told {
	x, y, z := big.NewInt(a), big.NewInt(b), new(big.Int)
	distance := new(big.Int).Mod(y, big.NewInt(64))
	power := new(big.Int).Lsh(big.NewInt(1), uint(distance.Int64()))
	switch sign {
	case "+":
		z.Add(x, y)
	case "-":
		z.Sub(x, y)
	case "*":
		z.Mul(x, y)
	case "/", "%":
		if b == 0 {
			return fails(api.ErrUndef)
		}
		quotient, rest := z.QuoRem(x, y, new(big.Int))
		if z = quotient; sign == "%" {
			z = rest
		}
	case "&":
		z.And(x, y)
	case "|":
		z.Or(x, y)
	case "^":
		z.Xor(x, y)
	case "<<":
		z.Mul(x, power)
	case ">>":
		z.Div(x, power) // rounded down, since power is positive
	default:
		return refRelation(sign, x.Cmp(y))
	}
	return ok(signed(z, 64))
}

func refRelation(sign string, order int) told {
	return truth(slices.Contains(map[string][]int{"==": {0}, "!=": {-1, 1}, "<": {-1}, "<=": {-1, 0}, ">": {1}, ">=": {0, 1}}[sign], order))
}

func refBin(sign string, a, b api.Value) told {
	if !slices.Contains(signs, sign) {
		return fails(api.ErrArg)
	}
	if isPart(a) || isPart(b) {
		return fails(api.ErrUndef)
	}
	equality := sign == "==" || sign == "!="
	relation := sign[0] == '<' || sign[0] == '>'
	switch {
	case isNum(a) && isNum(b):
		return refNumbers(sign, a.N, b.N)
	case isPtr(a) && isPtr(b) && equality:
		return truth((a == b) == (sign == "=="))
	case isPtr(a) && isPtr(b) && a.Block == b.Block && (sign == "-" || relation && sign != "<<" && sign != ">>"):
		return refNumbers(sign, a.N, b.N)
	case isPtr(a) && isNum(b) && b.N == 0 && equality, isPtr(b) && isNum(a) && a.N == 0 && equality:
		return truth(sign == "!=")
	}
	return fails(api.ErrUndef)
}

func refUn(sign string, a api.Value) told {
	if sign != "-" && sign != "~" {
		return fails(api.ErrArg)
	}
	if !isNum(a) {
		return fails(api.ErrUndef)
	}
	x := new(big.Int).Neg(big.NewInt(a.N))
	if sign == "~" { // the complement of a is -a - 1
		x.Sub(x, big.NewInt(1))
	}
	return ok(signed(x, 64))
}

func refFit(v api.Value, w int) told {
	switch {
	case w != 1 && w != 4 && w != 8:
		return fails(api.ErrArg)
	case w == 8:
		return ok(v)
	case isNum(v) && w == 4:
		return ok(signed(big.NewInt(v.N), 32))
	case isNum(v):
		return ok(num(new(big.Int).Mod(big.NewInt(v.N), big.NewInt(256)).Int64()))
	case v.Frag > 0 && w == 1:
		return ok(v)
	}
	return fails(api.ErrUndef)
}

// second is a second machine.
type second struct {
	p         api.Prog
	s         api.Script
	l         *mem.Mem
	calls     []activation // the innermost one is the last one
	steps     int
	reads     int // how many OpInput were executed
	mallocs   int // how many OpMalloc were executed with a number
	last      api.Errno
	done      bool
	mainsOwn  api.Value // what main returned
	succeeded map[int]int
}

type activation struct {
	fn, pc int
	values map[int]api.Value // the number 0, if there is none
	blocks []int
}

func (a activation) registers(count int) []api.Value {
	var l []api.Value
	for r := range count {
		l = append(l, a.values[r])
	}
	return l
}

func newSecond(p api.Prog, s api.Script) (*second, api.Errno) {
	o := &second{p: p, s: s, l: mem.New(), succeeded: map[int]int{}}
	for k, x := range p.Sites {
		if x.Kind == api.SiteFunc || x.Kind == api.SiteGlobal {
			if _, e := o.l.Alloc(k, x.Size, true); e != api.OK {
				return nil, e
			}
		}
	}
	if e := o.begin(p.Main, map[int]api.Value{}); e != api.OK {
		return nil, e
	}
	return o, api.OK
}

func (o *second) begin(fn int, values map[int]api.Value) api.Errno {
	if len(o.calls) == 200 {
		return api.ErrRange
	}
	var blocks []int
	for _, k := range o.p.Fns[fn].Locals {
		b, e := o.l.Alloc(k, o.p.Sites[k].Size, false)
		if e != api.OK {
			return api.ErrSize
		}
		blocks = append(blocks, b)
	}
	o.calls = append(o.calls, activation{fn, 0, values, blocks})
	return api.OK
}

// blockOf counts the sites that have blocks.
func (o *second) blockOf(site int) told {
	a := o.calls[len(o.calls)-1]
	if x := o.p.Sites[site]; x.Kind == api.SiteLocal {
		if n := slices.Index(o.p.Fns[a.fn].Locals, site); n >= 0 {
			return ok(ptr(a.blocks[n], 0))
		}
		return fails(api.ErrUndef)
	} else if x.Kind != api.SiteFunc && x.Kind != api.SiteGlobal {
		return fails(api.ErrUndef)
	}
	count := 0
	for _, x := range o.p.Sites[:site+1] {
		if x.Kind == api.SiteFunc || x.Kind == api.SiteGlobal {
			count++
		}
	}
	return ok(ptr(count, 0))
}

func (o *second) step() api.Moment {
	if o.done {
		return api.Moment{Call: -1, Err: api.ErrNone}
	}
	a := o.calls[len(o.calls)-1]
	x := api.Moment{Fn: a.fn, Pc: a.pc, Call: -1, Err: o.last}
	if o.last != api.OK {
		return x
	}
	if o.steps >= o.s.Fuel || o.steps >= 20000 {
		o.last, x.Err = api.ErrBudget, api.ErrBudget
		return x
	}
	o.steps++
	i := o.p.Fns[a.fn].Code[a.pc]
	x.Call, x.Err = o.execute(i)
	x.Done = o.done
	o.last = x.Err
	if x.Err == api.OK {
		o.succeeded[i.Op]++
	}
	return x
}

// execute returns the function that was called, or -1.
func (o *second) execute(i api.Insn) (int, api.Errno) {
	a := &o.calls[len(o.calls)-1]
	switch i.Op {
	case api.OpCall:
		return o.enter(int(i.N), i)
	case api.OpCallP:
		v := a.values[i.B]
		for n, f := range o.p.Fns {
			if o.blockOf(n) == ok(v) && f.Params == len(i.Args) {
				return o.enter(n, i)
			}
		}
		return -1, api.ErrUndef
	case api.OpReturn:
		o.end(a.values[i.A]) // -1 is no register, so that its value is the number 0
		return -1, api.OK
	case api.OpJump:
		a.pc = int(i.N)
		return -1, api.OK
	case api.OpIf:
		if isPart(a.values[i.A]) {
			return -1, api.ErrUndef
		}
		if a.values[i.A] == num(0) {
			a.pc = int(i.N)
		} else {
			a.pc++
		}
		return -1, api.OK
	}
	e := o.act(i, a)
	if e == api.OK {
		a.pc++
	}
	return -1, e
}

func (o *second) enter(n int, i api.Insn) (int, api.Errno) {
	values := map[int]api.Value{}
	for k, r := range i.Args {
		values[k] = o.calls[len(o.calls)-1].values[r]
	}
	if e := o.begin(n, values); e != api.OK {
		return -1, e
	}
	return n, api.OK
}

func (o *second) end(result api.Value) {
	last := len(o.calls) - 1
	for _, b := range o.calls[last].blocks {
		o.l.End(b)
	}
	o.calls = o.calls[:last]
	if last == 0 {
		o.done, o.mainsOwn = true, result
		return
	}
	a := &o.calls[last-1]
	a.values[o.p.Fns[a.fn].Code[a.pc].A] = result
	a.pc++
}

// act executes what neither calls nor leads anywhere.
func (o *second) act(i api.Insn, a *activation) api.Errno {
	x, y, z := a.values[i.A], a.values[i.B], a.values[i.C]
	switch i.Op {
	case api.OpStore:
		return o.l.Store(x, i.W, y)
	case api.OpCopy:
		return o.l.Copy(x, y, i.N)
	case api.OpMove:
		if !isNum(z) {
			return api.ErrUndef
		}
		return o.l.Copy(x, y, z.N)
	case api.OpFill:
		return o.l.Fill(x, y, z)
	case api.OpFree:
		if x == num(0) {
			return api.OK
		}
		if site, _, _ := o.l.Block(x.Block); isPtr(x) && x.N == 0 && o.p.Sites[site].Kind == api.SiteHeap {
			return o.l.End(x.Block)
		}
		return api.ErrUndef
	}
	r := o.value(i, y, z)
	if r.e == api.OK {
		a.values[i.A] = r.v
	}
	return r.e
}

func asTold(v api.Value, e api.Errno) told { return told{v, e} }

// value is what A becomes, where b and c are the values of B and C.
func (o *second) value(i api.Insn, b, c api.Value) told {
	switch i.Op {
	case api.OpConst:
		return ok(num(i.N))
	case api.OpInput:
		if o.reads++; o.reads <= len(o.s.Input) {
			return ok(num(o.s.Input[o.reads-1]))
		}
		return ok(num(0))
	case api.OpAddr:
		return o.blockOf(i.B)
	case api.OpAdd:
		return asTold(o.l.Add(b, i.N))
	case api.OpIndex:
		if isPtr(b) && isNum(c) && -4096 <= c.N && c.N <= 4096 && 0 <= i.N && i.N <= 4096 {
			return asTold(o.l.Add(b, c.N*i.N))
		}
		if isNum(b) && isNum(c) {
			product := new(big.Int).Mul(big.NewInt(c.N), big.NewInt(i.N))
			return ok(signed(product.Add(product, big.NewInt(b.N)), 64))
		}
		return fails(api.ErrUndef)
	case api.OpBin:
		return o.binary(i.Sign, b, c)
	case api.OpUn:
		return refUn(i.Sign, b)
	case api.OpFit:
		return refFit(b, i.W)
	case api.OpLoad:
		return asTold(o.l.Load(b, i.W))
	}
	return o.malloc(int(i.N), b)
}

func (o *second) binary(sign string, b, c api.Value) told {
	near := func(v api.Value) bool { return isNum(v) && -1<<62 <= v.N && v.N <= 1<<62 }
	if sign == "+" && isPtr(c) && near(b) {
		b, c = c, b
	}
	if isPtr(b) && near(c) && sign == "+" {
		return asTold(o.l.Add(b, c.N))
	}
	if isPtr(b) && near(c) && sign == "-" {
		return asTold(o.l.Add(b, 0-c.N))
	}
	return refBin(sign, b, c)
}

func (o *second) malloc(site int, b api.Value) told {
	if !isNum(b) {
		return fails(api.ErrUndef)
	}
	o.mallocs++
	if b.N < 0 || b.N > 4096 || o.mallocs <= len(o.s.Fails) && o.s.Fails[o.mallocs-1] {
		return ok(num(0))
	}
	if n, e := o.l.Alloc(site, int(b.N), false); e == api.OK {
		return ok(ptr(n, 0))
	}
	return ok(num(0))
}

func wantFramesAsReference(t *testing.T, m *mach.Machine, o *second) {
	t.Helper()
	if m.Depth() != len(o.calls) || m.Result() != o.mainsOwn {
		t.Fatalf("%d frames, %v, not %d, %v", m.Depth(), m.Result(), len(o.calls), o.mainsOwn)
	}
	for i, a := range o.calls[max(0, len(o.calls)-2):] {
		i += max(0, len(o.calls)-2)
		if fn, pc, l := m.Frame(i); fn != a.fn || pc != a.pc || !slices.Equal(l, a.registers(o.p.Fns[fn].Regs)) {
			t.Fatalf("frame %d: %d, %d, %v, not %v", i, fn, pc, l, a)
		}
	}
}

// wantRunAsReference runs a program on both machines, compares them at each step, and returns the last error and the second machine.
func wantRunAsReference(t *testing.T, p api.Prog, s api.Script) (api.Errno, *second) {
	t.Helper()
	m, e := mach.New(p, s)
	o, want := newSecond(p, s)
	if e != want {
		t.Fatalf("New(%+v): %d, not %d", p, e, want)
	}
	if e != api.OK {
		return e, nil
	}
	last := api.OK
	for steps := 0; last == api.OK; steps++ {
		wantFramesAsReference(t, m, o)
		x, y := m.Step(), o.step()
		if x != y {
			t.Fatalf("%+v, not %+v, in %+v", x, y, p)
		}
		if last = x.Err; steps > max(0, s.Fuel) {
			t.Fatalf("%d steps", steps)
		}
	}
	wantFramesAsReference(t, m, o)
	wantSameBlocks(t, m.Mem(), o.l)
	if x := m.Step(); x != o.step() || x.Err != last {
		t.Fatalf("%+v, after %d", x, last)
	}
	return last, o
}

func wantSameBlocks(t *testing.T, l, other *mem.Mem) {
	t.Helper()
	if !slices.EqualFunc(blocksOf(l), blocksOf(other), func(a, b picturedBlock) bool {
		return a.site == b.site && a.size == b.size && a.live == b.live && slices.Equal(a.bytes, b.bytes)
	}) {
		t.Fatal("the memories differ")
	}
}

// All pairs of values of many kinds, with all signs.
func TestAllSmallValuesAsReference(t *testing.T) {
	numbers := []int64{0, 1, 2, 3, -1, -2, 7, 62, 63, 64, 65, 127, 128, 255, 256, 1 << 31, -1 << 31, 1<<31 - 1, 1 << 32, 1 << 62, -1 << 62, math.MaxInt64, math.MinInt64, math.MinInt64 + 1}
	var values []api.Value
	for _, n := range numbers {
		values = append(values, num(n))
	}
	for _, n := range []int64{0, 1, -1, math.MaxInt64, math.MinInt64} {
		for _, block := range []int{-1, 0, 1, 2, math.MaxInt} {
			for _, frag := range []int{-1, 0, 1, 8, 9} {
				values = append(values, part(block, n, frag))
			}
		}
	}
	for _, sign := range append([]string{"", "!", "~", "&&", "=", "+ -"}, signs...) {
		for _, a := range values {
			for _, b := range values {
				wantBin(t, sign, a, b, refBin(sign, a, b))
			}
			wantUn(t, sign, a, refUn(sign, a))
		}
	}
	for _, v := range values {
		for w := -1; w < 18; w++ {
			wantFit(t, v, w, refFit(v, w))
		}
	}
}

func TestRandomValuesAsReference(t *testing.T) {
	r := maker{rand.New(rand.NewPCG(11, 1))}
	for range 400000 {
		sign, a, b := some(r, signs...), num(int64(r.Uint64())>>r.IntN(64)), num(int64(r.Uint64())>>r.IntN(64))
		wantBin(t, sign, a, b, refBin(sign, a, b))
		w := some(r, 1, 4, 8)
		wantFit(t, a, w, refFit(a, w))
	}
}

type maker struct{ *rand.Rand }

// some picks one of a list.
func some[E any](r maker, l ...E) E {
	return l[r.IntN(len(l))]
}

// The registers of random functions: numbers, pointers, and what was loaded.
const randomRegs = 10

func (r maker) usually(l ...int) int {
	if r.IntN(25) == 0 {
		return r.IntN(randomRegs)
	}
	return some(r, l...)
}

func (r maker) number() int  { return r.usually(0, 1, 2) }
func (r maker) pointer() int { return r.usually(3, 4, 5) }
func (r maker) loaded() int  { return r.usually(6, 7, 8, 9) }

func (r maker) constant() int64 {
	switch r.IntN(12) {
	case 0:
		return some(r, int64(math.MaxInt64), math.MinInt64, 4096, 4097, -4096, -4097, 1<<62, -1<<62, 1<<62+1, 1<<32+5, 258)
	case 1:
		return -int64(r.IntN(9))
	}
	return int64(r.IntN(9))
}

// callOf returns the address of a function, and a call through it, most often with as many arguments as it takes.
func (r maker) callOf(functions int64) []api.Insn {
	n, at := int(r.Int64N(functions)), r.pointer()
	i := callAt(r.number(), at)
	for range n + r.IntN(12)/11 {
		i.Args = append(i.Args, some(r, r.number(), r.pointer(), r.loaded()))
	}
	return []api.Insn{address(at, n), i}
}

// partOf returns how a part of a pointer gets into a register, and something that reads it.
func (r maker) partOf(length int) []api.Insn {
	at, to := r.pointer(), r.loaded()
	return []api.Insn{store(at, r.pointer(), 8), load(to, at, 1), some(r, branch(to, int64(r.IntN(length))), store(at, to, 1), op(api.OpFree, to, 0, 0), add(3, to, 0), binary(0, "==", to, 0))}
}

// insns returns some that belong together.
func (r maker) insns(p api.Prog, length int) []api.Insn {
	switch r.IntN(20) {
	case 0:
		return r.callOf(int64(len(p.Fns)))
	case 1:
		return r.partOf(length)
	}
	return []api.Insn{r.insn(p, length)}
}

// insn returns one of a function with that number of instructions.
func (r maker) insn(p api.Prog, length int) api.Insn {
	w := some(r, 1, 4, 8, 8)
	switch r.IntN(27) {
	case 0:
		return constant(r.number(), r.constant())
	case 1:
		return op(api.OpInput, r.number(), 0, 0)
	case 2, 3, 4:
		site := r.IntN(len(p.Sites))
		for p.Sites[site].Kind == 0 {
			site = 0
		}
		return address(r.pointer(), site)
	case 5:
		return add(r.pointer(), r.pointer(), r.constant())
	case 6:
		return add(r.number(), r.number(), r.constant())
	case 7:
		return index(r.pointer(), r.pointer(), r.number(), r.constant())
	case 8:
		return index(r.number(), r.number(), r.number(), r.constant())
	case 9:
		return binary(r.number(), some(r, signs...), r.number(), r.number())
	case 10:
		return binary(r.number(), some(r, "==", "!=", "-", "<", ">="), r.pointer(), r.pointer())
	case 11:
		return some(r, binary(r.pointer(), some(r, "+", "-"), r.pointer(), r.number()), binary(r.pointer(), "+", r.number(), r.pointer()))
	case 12:
		return api.Insn{Op: api.OpUn, A: r.number(), B: r.number(), Sign: some(r, "-", "~")}
	case 13:
		return api.Insn{Op: api.OpFit, A: r.loaded(), B: some(r, r.number(), r.loaded()), W: w}
	case 14, 15:
		return load(r.loaded(), r.pointer(), w)
	case 16:
		return store(r.pointer(), some(r, r.number(), r.loaded()), w)
	case 17:
		return store(r.pointer(), r.pointer(), 8)
	}
	return r.greater(length, int64(len(p.Fns)))
}

// greater returns an instruction that moves bytes, allocates, calls or leads elsewhere.
func (r maker) greater(length int, functions int64) api.Insn {
	switch r.IntN(11) {
	case 0:
		return api.Insn{Op: api.OpCopy, A: r.pointer(), B: r.pointer(), N: int64(r.IntN(12))}
	case 1:
		return op(api.OpMove, r.pointer(), r.pointer(), r.number())
	case 2:
		return op(api.OpFill, r.pointer(), r.number(), r.number())
	case 3, 4:
		return api.Insn{Op: api.OpMalloc, A: r.pointer(), B: r.number(), N: siteHeap}
	case 5:
		return op(api.OpFree, some(r, r.pointer(), r.number()), 0, 0)
	case 6, 7:
		i := call(r.number(), int(r.Int64N(functions)))
		for range i.N % 3 {
			i.Args = append(i.Args, some(r, r.number(), r.pointer(), r.loaded()))
		}
		return i
	case 8:
		i := callAt(r.loaded(), r.pointer())
		for range r.IntN(3) {
			i.Args = append(i.Args, some(r, r.number(), r.pointer()))
		}
		return i
	case 9:
		return branch(some(r, r.number(), r.loaded()), int64(r.IntN(length)))
	}
	return some(r, jump(int64(r.IntN(length))), leave(r.IntN(randomRegs+1)-1))
}

// prog returns a program of three functions, of which the first takes no, the second one and the third two arguments.
func (r maker) prog() api.Prog {
	p := program()
	p.Sites[siteNone].Kind = r.IntN(6)
	if p.Sites[siteNone].Kind == api.SiteFunc {
		p.Sites[siteNone].Kind = -1
	}
	for k := range p.Sites {
		if p.Sites[k].Kind != api.SiteFunc {
			p.Sites[k].Size = some(r, 8, 16, 32, 4, 9, r.IntN(12))
		}
		if r.IntN(300) == 0 {
			p.Sites[k].Size = some(r, -1, 4097, 4096)
		}
	}
	for n := range p.Fns {
		length := 6 + r.IntN(14)
		f := api.Fn{Regs: randomRegs, Params: n, Locals: p.Fns[n].Locals}
		f.Code = []api.Insn{address(3, siteBig), address(4, siteSmall)}
		if len(f.Locals) > 0 {
			f.Code = append(f.Code, address(5, f.Locals[0]))
		}
		for len(f.Code) < length {
			f.Code = append(f.Code, r.insns(p, length+1)...)
		}
		f.Code = append(f.Code, leave(r.IntN(randomRegs+1)-1))
		p.Fns[n] = f
	}
	p.Main = some(r, 0, 0, 0, 1, 2)
	return p
}

func (r maker) script() api.Script {
	s := api.Script{Fuel: some(r, 0, 1, 10, 40, 40, 150, 150, 400)}
	for range r.IntN(4) {
		s.Input = append(s.Input, r.constant())
		s.Fails = append(s.Fails, r.IntN(3) == 0)
	}
	return s
}

func TestRandomProgramsAsReference(t *testing.T) {
	r := maker{rand.New(rand.NewPCG(11, 2))}
	ends, done, stops := map[api.Errno]int{}, map[int]int{}, map[int]int{}
	for range 60000 {
		p := r.prog()
		e, o := wantRunAsReference(t, p, r.script())
		ends[e]++
		if o == nil {
			continue
		}
		for k, n := range o.succeeded {
			done[k] += n
		}
		if e == api.ErrUndef {
			a := o.calls[len(o.calls)-1]
			stops[p.Fns[a.fn].Code[a.pc].Op]++
		}
	}
	for _, e := range []api.Errno{api.ErrUndef, api.ErrBudget, api.ErrNone, api.ErrSize} {
		if ends[e] < 300 {
			t.Errorf("only %d of all random runs end with %d", ends[e], e)
		}
	}
	for k := api.OpConst; k <= api.OpInput; k++ {
		if done[k] < 1000 {
			t.Errorf("the operation %d was executed %d times", k, done[k])
		}
		switch k {
		case api.OpConst, api.OpInput, api.OpCall, api.OpJump, api.OpReturn:
			continue
		}
		if stops[k] < 20 {
			t.Errorf("only %d runs end at the operation %d", stops[k], k)
		}
	}
}

// sources are whole ones, with the result of main where it returns one.
var sources = []struct {
	s     string
	end   api.Errno
	value int64
}{
	{"int main() { int x; x = 5; return x / 0; }", api.ErrUndef, 0},
	{"int main() { return 42; }", api.ErrNone, 42},
	{"int g; int *p; int main() { p = &g; *p = 7; return g; }", api.ErrNone, 7},
	{"int main() { int i = 0; int s = 0; while (i < 100) { i = i + 1; if (i % 3) continue; if (i > 80) break; s = s + i; } return s; }", api.ErrNone, 1053},
	{"struct n { long v; struct n *next; }; struct n *push(struct n *l, long v) { struct n *x = malloc(sizeof(struct n)); if (!x) return l; x->v = v; x->next = l; return x; } int main() { struct n *l = 0; int i = 0; while (i < 9) { l = push(l, i * i); i = i + 1; } long s = 0; while (l) { s = s * 2 + l->v; struct n *dead = l; l = l->next; free(dead); } return s; }", api.ErrNone, 26106},
	{"int even(int n) { if (n == 0) return 1; return odd(n - 1); } int odd(int n) { if (n == 0) return 0; return even(n - 1); } int main() { return even(30) * 10 + odd(7); }", api.ErrNone, 11},
	{"int twice(int x) { return x * 2; } int minus(int x) { return -x; } int (*t[2])(int); int main() { t[0] = twice; t[1] = &minus; int i = 0; int s = 0; while (i < 2) { s = s + t[i](21); i = i + 1; } return s; }", api.ErrNone, 21},
	{"int g; int *p; char d[8]; int main() { p = &g; char *c = (char *)&p; int i = 0; while (i < 8) { d[i] = c[i]; i = i + 1; } int **q = (int **)d; **q = 8; return g; }", api.ErrNone, 8},
	{"int g; int *p; char d[8]; int main() { p = &g; char *c = (char *)&p; int i = 0; while (i < 8) { d[7 - i] = c[i]; i = i + 1; } int **q = (int **)d; return **q; }", api.ErrUndef, 0},
	{"int f(int n) { int l[4]; l[0] = n; if (n == 0) return 0; return f(n - 1) + l[0]; } int main() { return f(20); }", api.ErrNone, 210},
	{"int f(int n) { return f(n + 1); } int main() { return f(0); }", api.ErrRange, 0},
	{"int *f() { int x; x = 3; return &x; } int main() { return *f(); }", api.ErrUndef, 0},
	{"int main() { long a[3]; memset(a, 255, 16); memcpy(&a[1], a, 12); return a[2] == 4294967295; }", api.ErrUndef, 0},
	{"int main() { long a[3]; memset(a, 255, 24); memcpy(&a[1], a, 12); a[2] = a[2] >> 60; return a[2]; }", api.ErrNone, -1},
	{"int main() { char *c = malloc(10); int n = 0; while (c) { n = n + 1; c = malloc(4096); } return n; }", api.ErrBudget, 0},
	{"int main() { return input() - input() * input(); }", api.ErrNone, 5},
	{"union u { long l; char c[8]; int *p; }; union u x; int g; int main() { x.p = &g; x.c[0] = x.c[0]; return x.p == &g; }", api.ErrNone, 1},
	{"union u { long l; char c[8]; int *p; }; union u x; int g; int main() { x.p = &g; x.c[0] = x.c[1]; return x.p == &g; }", api.ErrUndef, 0},
	{"int main() { char *c = malloc(3); char *d = c + 3; if (d - c != 3) return 1; if (c >= d) return 2; d = d - 3; if (c != d) return 3; return *(d + 3); }", api.ErrUndef, 0},
}

func TestSourcesAsReference(t *testing.T) {
	script := api.Script{Input: []int64{8, 3, 1}, Fuel: 6000}
	for k, c := range sources {
		n, _, e := parse.Parse(c.s)
		u, recs, _, f := check.Check(n)
		p, g := lower.Lower(u, recs)
		if e != api.OK || f != api.OK || g != api.OK {
			t.Errorf("%d: %d, %d, %d", k, e, f, g)
			continue
		}
		end, o := wantRunAsReference(t, p, script)
		if end != c.end || o.mainsOwn != num(c.value) {
			t.Errorf("%d: %d, %v", k, end, o.mainsOwn)
		}
	}
}
