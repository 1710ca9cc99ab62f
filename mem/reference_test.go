package mem_test

import (
	"fmt"
	"math"
	"math/big"
	"math/rand/v2"
	"testing"

	"crosstree/api"
	"crosstree/mem"
)

// A second memory, written as the chapter's definitions stand there: numbers as mathematical integers, and bytes by their places in a map. Every function is held against it.

type place struct{ block, at int }

type area struct {
	site, size int
	live       bool
}

type second struct {
	areas map[int]area
	bytes map[place]api.Byte
}

func newSecond() *second {
	return &second{areas: map[int]area{}, bytes: map[place]api.Byte{}}
}

func isNum(v api.Value) bool  { return v.Block == 0 && v.Frag == 0 }
func isPtr(v api.Value) bool  { return v.Block > 0 && v.Frag == 0 }
func isPart(v api.Value) bool { return v.Frag >= 1 && v.Frag <= 8 }

func inRange(x *big.Int, a, b int64) bool {
	return x.Cmp(big.NewInt(a)) >= 0 && x.Cmp(big.NewInt(b)) <= 0
}

// bothInRange tells whether n and n + more are from 0 to size.
func bothInRange(n, more int64, size int) bool {
	a := big.NewInt(n)
	b := new(big.Int).Add(a, big.NewInt(more))
	return inRange(a, 0, int64(size)) && inRange(b, 0, int64(size))
}

func (s *second) accessible(p api.Value, n int64) bool {
	a, allocated := s.areas[p.Block]
	return isPtr(p) && allocated && a.live && bothInRange(p.N, n, a.size)
}

func (s *second) alloc(site, size int, zero bool) (int, api.Errno) {
	if size < 0 || size > 4096 || len(s.areas) == 2000 {
		return 0, api.ErrSize
	}
	b := len(s.areas) + 1
	s.areas[b] = area{site, size, true}
	for i := 0; zero && i < size; i++ {
		s.bytes[place{b, i}] = api.Byte{Kind: 1}
	}
	return b, api.OK
}

func (s *second) end(block int) api.Errno {
	a := s.areas[block]
	if !a.live {
		return api.ErrUndef
	}
	a.live = false
	s.areas[block] = a
	return api.OK
}

func (s *second) all(block int) []api.Byte {
	var l []api.Byte
	for i := range s.areas[block].size {
		l = append(l, s.bytes[place{block, i}])
	}
	return l
}

func (s *second) add(v api.Value, n int64) (api.Value, api.Errno) {
	a, allocated := s.areas[v.Block]
	if isNum(v) {
		sum := new(big.Int).Add(big.NewInt(v.N), big.NewInt(n))
		return num(int64(modulo(sum, 64))), api.OK
	}
	if isPtr(v) && allocated && bothInRange(v.N, n, a.size) {
		return ptr(v.Block, v.N+n), api.OK
	}
	return api.Value{}, api.ErrUndef
}

// modulo is the lowest bits of a mathematical integer.
func modulo(x *big.Int, bits uint) uint64 {
	return new(big.Int).Mod(x, new(big.Int).Lsh(big.NewInt(1), bits)).Uint64()
}

func (s *second) at(p api.Value, i int) place { return place{p.Block, int(p.N) + i} }

func (s *second) load(p api.Value, w int) (api.Value, api.Errno) {
	if w != 1 && w != 4 && w != 8 {
		return api.Value{}, api.ErrArg
	}
	if !s.accessible(p, int64(w)) {
		return api.Value{}, api.ErrUndef
	}
	first := s.bytes[s.at(p, 0)]
	count, ordered, sum := 0, 0, new(big.Int)
	for i := w - 1; i >= 0; i-- {
		b := s.bytes[s.at(p, i)]
		sum.Add(sum.Lsh(sum, 8), big.NewInt(int64(b.V)))
		if b.Kind == 1 {
			count++
		}
		if b.Kind == 2 && b.P.Frag == i+1 && b.P.Block == first.P.Block && b.P.N == first.P.N {
			ordered++
		}
	}
	if w > 1 && sum.Bit(8*w-1) == 1 {
		sum.Sub(sum, new(big.Int).Lsh(big.NewInt(1), uint(8*w)))
	}
	switch {
	case count == w:
		return num(sum.Int64()), api.OK
	case w == 8 && ordered == 8 && first.P.Block > 0:
		return ptr(first.P.Block, first.P.N), api.OK
	case w == 1 && first.Kind == 2:
		return first.P, api.OK
	}
	return api.Value{}, api.ErrUndef
}

func (s *second) store(p api.Value, w int, v api.Value) api.Errno {
	if w != 1 && w != 4 && w != 8 {
		return api.ErrArg
	}
	if !s.accessible(p, int64(w)) || !isNum(v) && !(isPtr(v) && w == 8) && !(isPart(v) && w == 1) {
		return api.ErrUndef
	}
	for i := range w {
		rest := new(big.Int).Rsh(big.NewInt(v.N), uint(8*i))
		b := api.Byte{Kind: 1, V: uint8(modulo(rest, 8))}
		if isPtr(v) {
			b = api.Byte{Kind: 2, P: part(v.Block, v.N, i+1)}
		}
		if isPart(v) {
			b = api.Byte{Kind: 2, P: v}
		}
		s.bytes[s.at(p, i)] = b
	}
	return api.OK
}

func (s *second) copy(to, from api.Value, n int64) api.Errno {
	if n < 0 || n > 4096 || !s.accessible(to, n) || !s.accessible(from, n) {
		return api.ErrUndef
	}
	var before []api.Byte
	for i := range int(n) {
		before = append(before, s.bytes[s.at(from, i)])
	}
	for i, b := range before {
		s.bytes[s.at(to, i)] = b
	}
	return api.OK
}

func (s *second) fill(p, v, n api.Value) api.Errno {
	if !isNum(v) || !isNum(n) || n.N < 0 || n.N > 4096 || !s.accessible(p, n.N) {
		return api.ErrUndef
	}
	for i := range int(n.N) {
		s.bytes[s.at(p, i)] = api.Byte{Kind: 1, V: uint8(modulo(big.NewInt(v.N), 8))}
	}
	return api.OK
}

// pair is a memory and the second one, which are asked the same.
type pair struct {
	t *testing.T
	m *mem.Mem
	s *second
}

func newPair(t *testing.T) pair { return pair{t, mem.New(), newSecond()} }

// wantSame fails if the answers differ; what tells the question.
func (p pair) wantSame(got, want any, what string, args ...any) {
	p.t.Helper()
	if got != want {
		p.t.Fatalf("%s: %v, not %v", fmt.Sprintf(what, args...), got, want)
	}
}

type told struct {
	v any
	e api.Errno
}

func (p pair) alloc(site, size int, zero bool) {
	a, e := p.m.Alloc(site, size, zero)
	b, f := p.s.alloc(site, size, zero)
	p.wantSame(told{a, e}, told{b, f}, "alloc %d %d %v", site, size, zero)
}

func (p pair) end(block int) {
	p.wantSame(p.m.End(block), p.s.end(block), "end %d", block)
}

func (p pair) add(v api.Value, n int64) {
	a, e := p.m.Add(v, n)
	b, f := p.s.add(v, n)
	p.wantSame(told{a, e}, told{b, f}, "add %v %d", v, n)
}

func (p pair) load(at api.Value, w int) {
	a, e := p.m.Load(at, w)
	b, f := p.s.load(at, w)
	p.wantSame(told{a, e}, told{b, f}, "load %v %d", at, w)
}

func (p pair) store(at api.Value, w int, v api.Value) {
	p.wantSame(p.m.Store(at, w, v), p.s.store(at, w, v), "store %v %d %v", at, w, v)
}

func (p pair) copy(to, from api.Value, n int64) {
	p.wantSame(p.m.Copy(to, from, n), p.s.copy(to, from, n), "copy %v %v %d", to, from, n)
}

func (p pair) fill(at, v, n api.Value) {
	p.wantSame(p.m.Fill(at, v, n), p.s.fill(at, v, n), "fill %v %v %v", at, v, n)
}

// wantBlocks compares all blocks and their bytes.
func (p pair) wantBlocks() {
	p.t.Helper()
	for b := -1; b <= len(p.s.areas)+1; b++ {
		site, size, live := p.m.Block(b)
		p.wantSame(area{site, size, live}, p.s.areas[b], "block %d", b)
		wantBytes(p.t, p.m, b, p.s.all(b))
	}
	if p.t.Failed() {
		p.t.FailNow()
	}
}

// wantStored is P10.5: whatever was stored by a call without an error is loaded.
func (p pair) wantStored(at api.Value, w int, v api.Value) {
	if p.m.Store(at, w, v) != p.s.store(at, w, v) {
		p.t.Fatalf("store %v %d %v", at, w, v)
	}
	if p.m.Store(at, w, v) != api.OK {
		return
	}
	want := v
	if isNum(v) && w == 1 {
		want.N = int64(uint8(v.N))
	}
	if isNum(v) && w == 4 {
		want.N = int64(int32(v.N))
	}
	got, e := p.m.Load(at, w)
	p.wantSame(told{got, e}, told{want, api.OK}, "what was stored at %v, %d, as %v", at, w, v)
}

// All small values, at all places, with all small widths and lengths, in a memory with live and ended blocks.
func TestAllSmallCallsAsReference(t *testing.T) {
	p := newPair(t)
	p.alloc(3, 10, true)
	p.alloc(4, 9, false)
	p.alloc(5, 9, true)
	p.alloc(6, 0, false)
	p.store(ptr(1, 1), 8, ptr(2, 7))
	p.store(ptr(2, 0), 8, num(-3))
	p.end(3)
	var values []api.Value
	for block := -1; block <= 5; block++ {
		for n := int64(-1); n <= 11; n++ {
			for frag := -1; frag <= 9; frag++ {
				values = append(values, part(block, n, frag))
			}
		}
	}
	for _, v := range values {
		for n := int64(-12); n <= 12; n++ {
			p.add(v, n)
			p.load(v, int(n))
		}
	}
	for _, at := range values {
		for w := -1; w <= 9; w++ {
			for _, v := range []api.Value{num(-2), num(300), ptr(1, 2), ptr(9, -1), part(2, 5, 8), part(0, 5, 2), part(-1, 5, 1), part(2, 5, 9), {Block: -1}} {
				p.store(at, w, v)
				p.wantStored(at, w, v)
			}
			p.fill(at, num(int64(w)), num(int64(w)))
			for _, other := range []api.Value{ptr(1, 0), ptr(1, 2), ptr(2, 1), ptr(2, 9), ptr(3, 0), ptr(4, 0), num(0)} {
				p.copy(at, other, int64(w))
				p.copy(other, at, int64(w))
			}
		}
	}
	p.wantBlocks()
}

// caller makes random calls whose arguments are mostly right.
type caller struct {
	*rand.Rand
	p pair
}

func (c caller) number() int64 {
	switch c.IntN(4) {
	case 0:
		return int64(c.Uint64())
	case 1:
		return [...]int64{math.MinInt64, math.MaxInt64, 1 << 31, -1 << 31, 1<<31 - 1, 128, 255, 256, 4096, 4097}[c.IntN(10)]
	}
	return c.Int64N(24) - 3
}

func (c caller) value() api.Value {
	switch c.IntN(8) {
	case 0:
		return part(c.IntN(9)-1, c.number(), c.IntN(11)-1)
	case 1, 2:
		return num(c.number())
	case 3:
		return part(1+c.IntN(6), c.Int64N(3), 1+c.IntN(8))
	}
	return ptr(1+c.IntN(6), c.Int64N(22)-1)
}

func (c caller) width() int {
	if c.IntN(9) == 0 {
		return c.IntN(12) - 1
	}
	return [...]int{1, 4, 8}[c.IntN(3)]
}

// moveBytes loads and stores single bytes in order, as a program does.
func (c caller) moveBytes() {
	from, to := c.value(), c.value()
	for i := range int64(8) {
		from.N, to.N = from.N+min(i, 1), to.N+min(i, 1)
		c.p.load(from, 1)
		if v, e := c.p.m.Load(from, 1); e == api.OK {
			c.p.store(to, 1, v)
		}
	}
	to.N -= 7
	c.p.load(to, 8)
}

func (c caller) call() {
	switch c.IntN(16) {
	case 0:
		c.p.alloc(c.IntN(9)-2, c.IntN(24)-1, c.IntN(2) == 0)
	case 1:
		if c.IntN(6) == 0 {
			c.p.end(c.IntN(9) - 1)
		}
	case 2:
		c.p.add(c.value(), c.number())
	case 3, 4, 5:
		c.p.copy(c.value(), c.value(), c.number())
	case 6:
		c.p.fill(c.value(), num(c.number()), num(c.Int64N(20)-1))
	case 7:
		c.p.fill(c.value(), c.value(), c.value())
	case 8:
		c.moveBytes()
	case 9, 10:
		c.p.wantStored(c.value(), c.width(), c.value())
	case 11, 12, 13:
		c.p.store(c.value(), c.width(), c.value())
	default:
		c.p.load(c.value(), c.width())
	}
}

func TestRandomCallsAsReference(t *testing.T) {
	for seed := range uint64(400) {
		c := caller{rand.New(rand.NewPCG(10, seed)), newPair(t)}
		for range c.IntN(5) {
			c.p.alloc(1, 8+c.IntN(14), c.IntN(2) == 0)
		}
		for i := range 600 {
			c.call()
			if i%50 == 0 {
				c.p.wantBlocks()
			}
		}
		c.p.wantBlocks()
	}
}
