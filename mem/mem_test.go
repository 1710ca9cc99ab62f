package mem_test

import (
	"math"
	"slices"
	"testing"

	"crosstree/api"
	"crosstree/mem"
)

// P10.1 to P10.5, one by one.

func num(n int64) api.Value { return api.Value{N: n} }

func ptr(block int, n int64) api.Value { return api.Value{N: n, Block: block} }

func part(block int, n int64, frag int) api.Value { return api.Value{N: n, Block: block, Frag: frag} }

// oddValues are neither numbers nor pointers nor parts.
var oddValues = []api.Value{
	{N: 1, Block: -1}, {N: 0, Block: math.MinInt}, {N: 1, Block: 0, Frag: -1}, {N: 1, Block: 0, Frag: 9},
	{N: 1, Block: 1, Frag: -1}, {N: 1, Block: 1, Frag: 9}, {N: 0, Block: 1, Frag: math.MinInt}, {N: 0, Block: 1, Frag: math.MaxInt},
}

// memory returns one with a block for each size, uninitialized; the sites are 11, 12 and on.
func memory(t *testing.T, sizes ...int) *mem.Mem {
	t.Helper()
	m := mem.New()
	for i, size := range sizes {
		if b, e := m.Alloc(11+i, size, false); b != i+1 || e != api.OK {
			t.Fatalf("the block of %d bytes is %d, %v", size, b, e)
		}
	}
	return m
}

func wantErr(t *testing.T, what string, got, want api.Errno) {
	t.Helper()
	if got != want {
		t.Errorf("%s: %v, not %v", what, got, want)
	}
}

func wantValue(t *testing.T, what string, v api.Value, e api.Errno, want api.Value, wantE api.Errno) {
	t.Helper()
	if v != want || e != wantE {
		t.Errorf("%s: %v, %v, not %v, %v", what, v, e, want, wantE)
	}
}

func wantBlock(t *testing.T, m *mem.Mem, block, site, size int, live bool) {
	t.Helper()
	if s, n, l := m.Block(block); s != site || n != size || l != live {
		t.Errorf("block %d: %d, %d, %v, not %d, %d, %v", block, s, n, l, site, size, live)
	}
}

func wantBytes(t *testing.T, m *mem.Mem, block int, want []api.Byte) {
	t.Helper()
	if l := m.Bytes(block); !slices.Equal(l, want) {
		t.Errorf("the bytes of %d are %v, not %v", block, l, want)
	}
}

// numbers are the bytes of these numbers.
func numbers(l ...uint8) []api.Byte {
	var bytes []api.Byte
	for _, v := range l {
		bytes = append(bytes, api.Byte{Kind: 1, V: v})
	}
	return bytes
}

// parts are the bytes of a pointer with these numbers.
func parts(block int, n int64, frags ...int) []api.Byte {
	var bytes []api.Byte
	for _, f := range frags {
		bytes = append(bytes, api.Byte{Kind: 2, P: part(block, n, f)})
	}
	return bytes
}

// counted stores the numbers 1, 2 and on in all bytes of a block.
func counted(t *testing.T, m *mem.Mem, block int) []api.Byte {
	t.Helper()
	_, size, _ := m.Block(block)
	for i := range size {
		wantErr(t, "store", m.Store(ptr(block, int64(i)), 1, num(int64(i+1))), api.OK)
	}
	return m.Bytes(block)
}

func TestNewHasNoBlocks(t *testing.T) {
	m := mem.New()
	if m == nil {
		t.Fatal("no memory")
	}
	for _, b := range []int{math.MinInt, -1, 0, 1, 2, api.MaxBlocks, math.MaxInt} {
		wantBlock(t, m, b, 0, 0, false)
		wantBytes(t, m, b, nil)
		wantErr(t, "end", m.End(b), api.ErrUndef)
	}
}

func TestAllocNumbersBlocks(t *testing.T) {
	m := mem.New()
	for i, c := range []struct{ site, size int }{{5, 16}, {5, 0}, {0, 4096}, {-7, 1}, {math.MaxInt, 3}, {math.MinInt, 8}} {
		b, e := m.Alloc(c.site, c.size, i%2 == 0)
		if b != i+1 || e != api.OK {
			t.Errorf("block %d: %d, %v", i+1, b, e)
		}
		wantBlock(t, m, b, c.site, c.size, true)
	}
	wantBlock(t, m, 1, 5, 16, true)
	wantBlock(t, m, 7, 0, 0, false)
	wantBlock(t, m, 0, 0, 0, false)
	wantBlock(t, m, -1, 0, 0, false)
}

func TestAllocRefusesSizes(t *testing.T) {
	m := memory(t, 4)
	for _, size := range []int{-1, 4097, math.MinInt, math.MaxInt, 1 << 32, -4096} {
		for _, zero := range []bool{false, true} {
			if b, e := m.Alloc(1, size, zero); b != 0 || e != api.ErrSize {
				t.Errorf("%d bytes: %d, %v", size, b, e)
			}
		}
	}
	wantBlock(t, m, 2, 0, 0, false)
	if b, e := m.Alloc(9, 4096, true); b != 2 || e != api.OK {
		t.Errorf("after refusals: %d, %v", b, e)
	}
}

func TestAllocHasALimitOfBlocks(t *testing.T) {
	for _, ended := range []bool{false, true} {
		m := mem.New()
		for i := range api.MaxBlocks {
			if b, e := m.Alloc(i, 1, false); b != i+1 || e != api.OK {
				t.Fatalf("block %d: %d, %v", i+1, b, e)
			}
			if ended {
				m.End(i + 1)
			}
		}
		for range 2 {
			if b, e := m.Alloc(3, 0, true); b != 0 || e != api.ErrSize {
				t.Errorf("block 2001: %d, %v", b, e)
			}
		}
		wantBlock(t, m, 2000, 1999, 1, !ended)
		wantBlock(t, m, 2001, 0, 0, false)
	}
}

func TestAllocInitializesOrNot(t *testing.T) {
	m := mem.New()
	for _, size := range []int{0, 1, 5, 4096} {
		a, _ := m.Alloc(1, size, true)
		wantBytes(t, m, a, numbers(make([]uint8, size)...))
		b, _ := m.Alloc(1, size, false)
		wantBytes(t, m, b, make([]api.Byte, size))
	}
	v, e := m.Load(ptr(5, 0), 4)
	wantValue(t, "zeroed", v, e, num(0), api.OK)
	v, e = m.Load(ptr(6, 0), 4)
	wantValue(t, "uninitialized", v, e, num(0), api.ErrUndef)
}

func TestEndEndsOneBlockOnce(t *testing.T) {
	m := memory(t, 8, 8, 0)
	kept := counted(t, m, 2)
	wantErr(t, "end", m.End(2), api.OK)
	wantErr(t, "end again", m.End(2), api.ErrUndef)
	for _, b := range []int{0, -1, 4, math.MaxInt, math.MinInt} {
		wantErr(t, "end of none", m.End(b), api.ErrUndef)
	}
	wantBlock(t, m, 1, 11, 8, true)
	wantBlock(t, m, 2, 12, 8, false)
	wantBytes(t, m, 2, kept)
	wantErr(t, "end of an empty one", m.End(3), api.OK)
	if b, e := m.Alloc(9, 2, false); b != 4 || e != api.OK {
		t.Errorf("the number of an ended block is used again: %d, %v", b, e)
	}
}

func TestEndedBlocksAreNotAccessible(t *testing.T) {
	m := memory(t, 8, 8)
	kept := counted(t, m, 1)
	m.End(1)
	other := m.Bytes(2)
	for _, w := range []int{1, 4, 8} {
		v, e := m.Load(ptr(1, 0), w)
		wantValue(t, "load", v, e, num(0), api.ErrUndef)
		wantErr(t, "store", m.Store(ptr(1, 0), w, num(9)), api.ErrUndef)
	}
	for _, n := range []int64{0, 1, 8} {
		wantErr(t, "copy to", m.Copy(ptr(1, 0), ptr(2, 0), n), api.ErrUndef)
		wantErr(t, "copy from", m.Copy(ptr(2, 0), ptr(1, 0), n), api.ErrUndef)
		wantErr(t, "fill", m.Fill(ptr(1, 0), num(9), num(n)), api.ErrUndef)
	}
	wantBytes(t, m, 1, kept)
	wantBytes(t, m, 2, other)
	v, e := m.Add(ptr(1, 0), 8)
	wantValue(t, "add", v, e, ptr(1, 8), api.OK)
}

func TestAddOfNumbers(t *testing.T) {
	for _, m := range []*mem.Mem{mem.New(), nil} {
		for _, c := range []struct{ a, b, sum int64 }{
			{0, 0, 0}, {3, -4, -1}, {1 << 40, 1, 1<<40 + 1},
			{math.MaxInt64, 1, math.MinInt64}, {math.MinInt64, -1, math.MaxInt64}, {math.MinInt64, math.MinInt64, 0}, {math.MaxInt64, math.MaxInt64, -2},
		} {
			v, e := m.Add(num(c.a), c.b)
			wantValue(t, "sum", v, e, num(c.sum), api.OK)
		}
	}
}

func TestAddOfPointers(t *testing.T) {
	m := memory(t, 16, 0)
	for _, c := range []struct {
		block int
		at, n int64
		e     api.Errno
	}{
		{1, 0, 0, api.OK}, {1, 0, 16, api.OK}, {1, 16, 0, api.OK}, {1, 16, -16, api.OK}, {1, 5, 3, api.OK}, {1, 5, -5, api.OK}, {2, 0, 0, api.OK},
		{1, 0, 17, api.ErrUndef}, {1, 0, -1, api.ErrUndef}, {1, 16, 1, api.ErrUndef}, {1, 16, -17, api.ErrUndef}, {2, 0, 1, api.ErrUndef}, {2, 0, -1, api.ErrUndef},
		{1, 17, -1, api.ErrUndef}, {1, 17, 0, api.ErrUndef}, {1, -1, 1, api.ErrUndef}, {1, -1, 0, api.ErrUndef}, {2, 1, -1, api.ErrUndef},
		{1, 8, math.MaxInt64, api.ErrUndef}, {1, 8, math.MinInt64, api.ErrUndef}, {1, 0, math.MinInt64, api.ErrUndef},
		{1, math.MaxInt64, math.MinInt64, api.ErrUndef}, {1, math.MinInt64, math.MinInt64, api.ErrUndef}, {1, math.MaxInt64, -math.MaxInt64, api.ErrUndef},
		{1, math.MinInt64, math.MaxInt64, api.ErrUndef}, {3, 0, 0, api.ErrUndef}, {math.MaxInt, 0, 0, api.ErrUndef},
	} {
		want := api.Value{}
		if c.e == api.OK {
			want = ptr(c.block, c.at+c.n)
		}
		v, e := m.Add(ptr(c.block, c.at), c.n)
		wantValue(t, "add", v, e, want, c.e)
	}
}

func TestAddOfEndedBlocks(t *testing.T) {
	m := memory(t, 16)
	m.End(1)
	v, e := m.Add(ptr(1, 3), 13)
	wantValue(t, "within", v, e, ptr(1, 16), api.OK)
	v, e = m.Add(ptr(1, 3), 14)
	wantValue(t, "behind", v, e, num(0), api.ErrUndef)
}

func TestAddOfOtherValues(t *testing.T) {
	m := memory(t, 16)
	l := slices.Clone(oddValues)
	for frag := range 8 {
		l = append(l, part(1, 0, frag+1), part(0, 0, frag+1), part(-1, 0, frag+1))
	}
	for _, x := range l {
		for _, n := range []int64{0, 1} {
			v, e := m.Add(x, n)
			wantValue(t, "add", v, e, num(0), api.ErrUndef)
		}
	}
}

func TestNumbersAreStoredAndLoaded(t *testing.T) {
	for _, c := range []struct {
		w       int
		v, want int64
	}{
		{1, 0, 0}, {1, 127, 127}, {1, 128, 128}, {1, 255, 255}, {1, 256, 0}, {1, -1, 255}, {1, -256, 0}, {1, math.MinInt64, 0}, {1, math.MaxInt64, 255},
		{4, 0, 0}, {4, -1, -1}, {4, 1<<31 - 1, 1<<31 - 1}, {4, 1 << 31, -1 << 31}, {4, 1 << 32, 0}, {4, 1<<32 - 1, -1}, {4, -1<<31 - 1, 1<<31 - 1}, {4, math.MinInt64, 0}, {4, 200, 200},
		{8, 0, 0}, {8, -1, -1}, {8, math.MaxInt64, math.MaxInt64}, {8, math.MinInt64, math.MinInt64}, {8, 1 << 32, 1 << 32}, {8, 0x0102030405060708, 0x0102030405060708},
	} {
		m := memory(t, 24)
		wantErr(t, "store", m.Store(ptr(1, 9), c.w, num(c.v)), api.OK)
		v, e := m.Load(ptr(1, 9), c.w)
		wantValue(t, "load", v, e, num(c.want), api.OK)
		want := make([]api.Byte, 24)
		for i := range c.w {
			want[9+i] = api.Byte{Kind: 1, V: uint8(c.v >> (8 * i))}
		}
		wantBytes(t, m, 1, want)
	}
}

func TestTheLeastSignificantByteIsFirst(t *testing.T) {
	m := memory(t, 8)
	m.Store(ptr(1, 0), 8, num(-0x0102030405060708))
	wantBytes(t, m, 1, numbers(0xf8, 0xf8, 0xf9, 0xfa, 0xfb, 0xfc, 0xfd, 0xfe))
	counted(t, m, 1)
	for _, c := range []struct {
		at   int64
		w    int
		want int64
	}{{0, 8, 0x0807060504030201}, {0, 4, 0x04030201}, {3, 4, 0x07060504}, {4, 4, 0x08070605}, {7, 1, 8}} {
		v, e := m.Load(ptr(1, c.at), c.w)
		wantValue(t, "load", v, e, num(c.want), api.OK)
	}
}

func TestWidths(t *testing.T) {
	m := memory(t, 32)
	kept := counted(t, m, 1)
	for _, w := range []int{-8, -1, 0, 2, 3, 5, 6, 7, 9, 16, math.MinInt, math.MaxInt, 1 << 32} {
		for _, p := range append([]api.Value{ptr(1, 0), ptr(1, 32), ptr(2, 0), num(0), part(1, 0, 1)}, oddValues...) {
			for _, m := range []*mem.Mem{m, nil, mem.New()} {
				v, e := m.Load(p, w)
				wantValue(t, "load", v, e, num(0), api.ErrArg)
				for _, v := range []api.Value{num(1), ptr(1, 0), part(1, 0, 2), {Block: -1}} {
					wantErr(t, "store", m.Store(p, w, v), api.ErrArg)
				}
			}
		}
	}
	wantBytes(t, m, 1, kept)
}

func TestWhichBytesAreAccessible(t *testing.T) {
	m := memory(t, 16, 0, 3)
	kept := counted(t, m, 1)
	for _, w := range []int{1, 4, 8} {
		for _, p := range append([]api.Value{
			ptr(1, -1), ptr(1, int64(17-w)), ptr(1, 16), ptr(1, 17), ptr(1, math.MaxInt64), ptr(1, math.MinInt64), ptr(1, math.MaxInt64-int64(w)+1),
			ptr(2, 0), ptr(2, 1), ptr(3, int64(4-w)), ptr(4, 0), ptr(math.MaxInt, 0), num(0), num(5), part(1, 0, 1), part(1, 0, 8), part(0, 0, 3),
		}, oddValues...) {
			v, e := m.Load(p, w)
			wantValue(t, "load", v, e, num(0), api.ErrUndef)
			wantErr(t, "store", m.Store(p, w, num(9)), api.ErrUndef)
		}
		for _, at := range []int64{0, int64(16 - w)} {
			if _, e := m.Load(ptr(1, at), w); e != api.OK {
				t.Errorf("%d bytes at %d: %v", w, at, e)
			}
		}
	}
	wantBytes(t, m, 1, kept)
	wantBytes(t, m, 3, make([]api.Byte, 3))
}

func TestPointersAreStoredAndLoaded(t *testing.T) {
	for _, p := range []api.Value{ptr(1, 3), ptr(2, 0), ptr(1, -5), ptr(9, math.MaxInt64), ptr(math.MaxInt, math.MinInt64)} {
		m := memory(t, 24)
		wantErr(t, "store", m.Store(ptr(1, 5), 8, p), api.OK)
		want := make([]api.Byte, 24)
		copy(want[5:], parts(p.Block, p.N, 1, 2, 3, 4, 5, 6, 7, 8))
		wantBytes(t, m, 1, want)
		v, e := m.Load(ptr(1, 5), 8)
		wantValue(t, "load", v, e, p, api.OK)
		for i := range 8 {
			v, e := m.Load(ptr(1, int64(5+i)), 1)
			wantValue(t, "part", v, e, part(p.Block, p.N, i+1), api.OK)
		}
		for _, at := range []int64{2, 3, 4, 5, 6, 7, 8, 9, 10, 11, 12} {
			v, e := m.Load(ptr(1, at), 4)
			wantValue(t, "four", v, e, num(0), api.ErrUndef)
			if at != 5 {
				v, e = m.Load(ptr(1, at), 8)
				wantValue(t, "eight", v, e, num(0), api.ErrUndef)
			}
		}
	}
}

func TestPointersNeedEightBytes(t *testing.T) {
	m := memory(t, 16)
	kept := counted(t, m, 1)
	for _, w := range []int{1, 4} {
		wantErr(t, "store", m.Store(ptr(1, 0), w, ptr(1, 3)), api.ErrUndef)
	}
	wantBytes(t, m, 1, kept)
}

func TestPartsAreStoredAndLoaded(t *testing.T) {
	for frag := range 8 {
		p := part(7, -2, frag+1)
		m := memory(t, 16)
		kept := counted(t, m, 1)
		wantErr(t, "store", m.Store(ptr(1, 4), 4, p), api.ErrUndef)
		wantErr(t, "store", m.Store(ptr(1, 4), 8, p), api.ErrUndef)
		wantBytes(t, m, 1, kept)
		wantErr(t, "store", m.Store(ptr(1, 4), 1, p), api.OK)
		kept[4] = api.Byte{Kind: 2, P: p}
		wantBytes(t, m, 1, kept)
		v, e := m.Load(ptr(1, 4), 1)
		wantValue(t, "load", v, e, p, api.OK)
	}
}

func TestOddValuesAreNotStored(t *testing.T) {
	m := memory(t, 16)
	kept := counted(t, m, 1)
	for _, v := range oddValues {
		for _, w := range []int{1, 4, 8} {
			wantErr(t, "store", m.Store(ptr(1, 0), w, v), api.ErrUndef)
		}
	}
	wantBytes(t, m, 1, kept)
}

// storeParts stores parts one by one from the beginning of the block 1 on.
func storeParts(t *testing.T, m *mem.Mem, l []api.Value) {
	t.Helper()
	for i, v := range l {
		wantErr(t, "store", m.Store(ptr(1, int64(i)), 1, v), api.OK)
	}
}

func TestPartsOfOnePointerInOrder(t *testing.T) {
	var l []api.Value
	for i := range 8 {
		l = append(l, part(4, 6, i+1))
	}
	m := memory(t, 8)
	storeParts(t, m, l)
	v, e := m.Load(ptr(1, 0), 8)
	wantValue(t, "in order", v, e, ptr(4, 6), api.OK)
	for i := range 8 {
		next := (i + 1) % 8
		for what, other := range map[string]api.Value{"of another block": part(5, 6, i+1), "of another place": part(4, 7, i+1), "another part": part(4, 6, next+1), "a number": num(0)} {
			spoilt := slices.Clone(l)
			spoilt[i] = other
			storeParts(t, m, spoilt)
			v, e := m.Load(ptr(1, 0), 8)
			wantValue(t, what, v, e, num(0), api.ErrUndef)
		}
		swapped := slices.Clone(l)
		swapped[i], swapped[next] = swapped[next], swapped[i]
		storeParts(t, m, swapped)
		v, e := m.Load(ptr(1, 0), 8)
		wantValue(t, "swapped", v, e, num(0), api.ErrUndef)
	}
}

// A part is what its Frag tells; a pointer has a block, so that parts of none are nobody's parts.
func TestPartsOfNoPointer(t *testing.T) {
	for _, block := range []int{0, -1} {
		m := memory(t, 8)
		for i := range 8 {
			p := part(block, 6, i+1)
			storeParts(t, m, append(make([]api.Value, i), p))
			v, e := m.Load(ptr(1, int64(i)), 1)
			wantValue(t, "part", v, e, p, api.OK)
		}
		for i := range 8 {
			m.Store(ptr(1, int64(i)), 1, part(block, 6, i+1))
		}
		v, e := m.Load(ptr(1, 0), 8)
		wantValue(t, "all parts", v, e, num(0), api.ErrUndef)
	}
}

func TestMixedBytesAreNoValue(t *testing.T) {
	for spoilt := range 8 {
		for _, kind := range []string{"part", "uninitialized"} {
			m := memory(t, 8, 1)
			counted(t, m, 1)
			if kind == "part" {
				m.Store(ptr(1, int64(spoilt)), 1, part(1, 0, spoilt+1))
			} else {
				m.Copy(ptr(1, int64(spoilt)), ptr(2, 0), 1)
			}
			v, e := m.Load(ptr(1, 0), 8)
			wantValue(t, kind, v, e, num(0), api.ErrUndef)
			wanted := api.OK
			if spoilt < 4 {
				wanted = api.ErrUndef
			}
			if v, e := m.Load(ptr(1, 0), 4); e != wanted || e != api.OK && v != num(0) {
				t.Errorf("four bytes of which %d is %s: %v, %v", spoilt, kind, v, e)
			}
		}
	}
	m := memory(t, 9)
	for _, w := range []int{1, 4, 8} {
		v, e := m.Load(ptr(1, 0), w)
		wantValue(t, "uninitialized", v, e, num(0), api.ErrUndef)
	}
	m.Store(ptr(1, 1), 8, ptr(1, 0))
	v, e := m.Load(ptr(1, 0), 8)
	wantValue(t, "begins uninitialized", v, e, num(0), api.ErrUndef)
}

func TestCopyKeepsAllKindsOfBytes(t *testing.T) {
	m := memory(t, 12, 12)
	m.Store(ptr(1, 0), 8, ptr(2, 4))
	m.Store(ptr(1, 9), 1, num(200))
	counted(t, m, 2)
	wantErr(t, "copy", m.Copy(ptr(2, 1), ptr(1, 0), 11), api.OK)
	want := slices.Concat(numbers(1), parts(2, 4, 1, 2, 3, 4, 5, 6, 7, 8), make([]api.Byte, 1), numbers(200), make([]api.Byte, 1))
	wantBytes(t, m, 2, want)
	v, e := m.Load(ptr(2, 1), 8)
	wantValue(t, "copied pointer", v, e, ptr(2, 4), api.OK)
	m.Store(ptr(1, 0), 8, num(0))
	wantBytes(t, m, 2, want)
}

func TestCopyOverlaps(t *testing.T) {
	for _, c := range []struct {
		to, from, n int64
		want        []uint8
	}{
		{0, 0, 8, []uint8{1, 2, 3, 4, 5, 6, 7, 8}}, {1, 0, 7, []uint8{1, 1, 2, 3, 4, 5, 6, 7}}, {0, 1, 7, []uint8{2, 3, 4, 5, 6, 7, 8, 8}},
		{3, 1, 4, []uint8{1, 2, 3, 2, 3, 4, 5, 8}}, {1, 3, 4, []uint8{1, 4, 5, 6, 7, 6, 7, 8}}, {4, 0, 4, []uint8{1, 2, 3, 4, 1, 2, 3, 4}}, {8, 8, 0, []uint8{1, 2, 3, 4, 5, 6, 7, 8}}, {0, 8, 0, []uint8{1, 2, 3, 4, 5, 6, 7, 8}},
	} {
		m := memory(t, 8)
		counted(t, m, 1)
		wantErr(t, "copy", m.Copy(ptr(1, c.to), ptr(1, c.from), c.n), api.OK)
		wantBytes(t, m, 1, numbers(c.want...))
	}
}

// wrongPlaces are places in blocks of 8 bytes at which no byte is accessible, not even none of them.
var wrongPlaces = append([]api.Value{num(0), num(3), ptr(1, -1), ptr(1, 9), ptr(1, math.MinInt64), ptr(1, math.MaxInt64), ptr(3, 0), part(1, 0, 1), part(0, 0, 1)}, oddValues...)

func TestCopyErrors(t *testing.T) {
	m := memory(t, 8, 8)
	kept, other := counted(t, m, 1), m.Bytes(2)
	for _, n := range []int64{0, 1, 8} {
		for _, p := range wrongPlaces {
			wantErr(t, "to", m.Copy(p, ptr(2, 0), n), api.ErrUndef)
			wantErr(t, "from", m.Copy(ptr(2, 0), p, n), api.ErrUndef)
		}
	}
	for _, n := range []int64{-1, -8, 9, 4096, 4097, math.MinInt64, math.MaxInt64} {
		wantErr(t, "length", m.Copy(ptr(1, 0), ptr(2, 0), n), api.ErrUndef)
		wantErr(t, "length back", m.Copy(ptr(1, 8), ptr(2, 8), n), api.ErrUndef)
	}
	wantErr(t, "to is short", m.Copy(ptr(2, 1), ptr(1, 0), 8), api.ErrUndef)
	wantErr(t, "from is short", m.Copy(ptr(2, 0), ptr(1, 1), 8), api.ErrUndef)
	wantBytes(t, m, 1, kept)
	wantBytes(t, m, 2, other)
}

func TestGreatestBlocks(t *testing.T) {
	m := memory(t, 4096, 4096)
	wantErr(t, "fill", m.Fill(ptr(1, 0), num(7), num(4096)), api.OK)
	wantErr(t, "copy", m.Copy(ptr(2, 0), ptr(1, 0), 4096), api.OK)
	wantBytes(t, m, 2, slices.Repeat(numbers(7), 4096))
	wantErr(t, "fill", m.Fill(ptr(1, 0), num(8), num(4097)), api.ErrUndef)
	wantErr(t, "copy", m.Copy(ptr(1, 0), ptr(2, 0), 4097), api.ErrUndef)
	wantErr(t, "nothing", m.Copy(ptr(1, 4096), ptr(2, 4096), 0), api.OK)
	wantBytes(t, m, 1, slices.Repeat(numbers(7), 4096))
}

func TestFill(t *testing.T) {
	for _, c := range []struct {
		v    int64
		want uint8
	}{{0, 0}, {255, 255}, {256, 0}, {513, 1}, {-1, 255}, {-256, 0}, {-257, 255}, {math.MinInt64, 0}, {math.MaxInt64, 255}} {
		m := memory(t, 12)
		m.Store(ptr(1, 2), 8, ptr(1, 0))
		wantErr(t, "fill", m.Fill(ptr(1, 3), num(c.v), num(5)), api.OK)
		want := make([]api.Byte, 12)
		copy(want[2:], parts(1, 0, 1, 2, 3, 4, 5, 6, 7, 8))
		copy(want[3:], numbers(c.want, c.want, c.want, c.want, c.want))
		wantBytes(t, m, 1, want)
		wantErr(t, "fill of nothing", m.Fill(ptr(1, 12), num(c.v), num(0)), api.OK)
		wantBytes(t, m, 1, want)
	}
}

func TestFillErrors(t *testing.T) {
	m := memory(t, 8, 8)
	kept := counted(t, m, 1)
	for _, x := range append([]api.Value{ptr(1, 0), ptr(1, 4), ptr(3, 1), part(1, 1, 1), part(0, 1, 8)}, oddValues...) {
		wantErr(t, "v", m.Fill(ptr(1, 0), x, num(1)), api.ErrUndef)
		wantErr(t, "v", m.Fill(ptr(1, 0), x, num(0)), api.ErrUndef)
		wantErr(t, "n", m.Fill(ptr(1, 0), num(1), x), api.ErrUndef)
	}
	for _, n := range []int64{0, 1, 8} {
		for _, p := range wrongPlaces {
			wantErr(t, "p", m.Fill(p, num(9), num(n)), api.ErrUndef)
		}
	}
	for _, n := range []int64{-1, -8, 9, 4096, 4097, math.MinInt64, math.MaxInt64} {
		wantErr(t, "length", m.Fill(ptr(1, 0), num(9), num(n)), api.ErrUndef)
		wantErr(t, "length back", m.Fill(ptr(1, 8), num(9), num(n)), api.ErrUndef)
	}
	wantErr(t, "short", m.Fill(ptr(1, 1), num(9), num(8)), api.ErrUndef)
	wantBytes(t, m, 1, kept)
}

func TestNilMemory(t *testing.T) {
	var m *mem.Mem
	for _, size := range []int{-1, 0, 8, 4096, 4097} {
		if b, e := m.Alloc(1, size, true); b != 0 || e != api.ErrSize {
			t.Errorf("%d bytes: %d, %v", size, b, e)
		}
	}
	for _, b := range []int{-1, 0, 1} {
		wantErr(t, "end", m.End(b), api.ErrUndef)
		wantBlock(t, m, b, 0, 0, false)
		wantBytes(t, m, b, nil)
	}
	for _, p := range append([]api.Value{num(0), ptr(1, 0), part(1, 0, 1)}, oddValues...) {
		for _, w := range []int{1, 4, 8} {
			v, e := m.Load(p, w)
			wantValue(t, "load", v, e, num(0), api.ErrUndef)
			wantErr(t, "store", m.Store(p, w, num(1)), api.ErrUndef)
		}
		wantErr(t, "copy", m.Copy(p, p, 0), api.ErrUndef)
		wantErr(t, "fill", m.Fill(p, num(0), num(0)), api.ErrUndef)
		if p != num(0) {
			v, e := m.Add(p, 0)
			wantValue(t, "add", v, e, num(0), api.ErrUndef)
		}
	}
}

// P10.5: what is stored over a part of something changes these bytes alone, and all of it is loaded.
func TestPointersCopiedByteByByte(t *testing.T) {
	m := memory(t, 16, 16)
	m.Store(ptr(1, 4), 8, ptr(2, 9))
	for i := range int64(8) {
		v, e := m.Load(ptr(2, 3), 8)
		wantValue(t, "not yet all", v, e, num(0), api.ErrUndef)
		v, e = m.Load(ptr(1, 4+i), 1)
		wantValue(t, "part", v, e, part(2, 9, int(i+1)), api.OK)
		wantErr(t, "store", m.Store(ptr(2, 3+i), 1, v), api.OK)
	}
	v, e := m.Load(ptr(2, 3), 8)
	wantValue(t, "all", v, e, ptr(2, 9), api.OK)
	want := make([]api.Byte, 16)
	copy(want[3:], parts(2, 9, 1, 2, 3, 4, 5, 6, 7, 8))
	wantBytes(t, m, 2, want)
	m.Store(ptr(2, 10), 1, num(0))
	v, e = m.Load(ptr(2, 3), 8)
	wantValue(t, "spoilt", v, e, num(0), api.ErrUndef)
}

// The chapter's examples.
func TestExamples(t *testing.T) {
	m := mem.New()
	if b, e := m.Alloc(5, 16, false); b != 1 || e != api.OK {
		t.Fatal(b, e)
	}
	wantErr(t, "store", m.Store(ptr(1, 8), 8, ptr(1, 3)), api.OK)
	v, e := m.Load(ptr(1, 8), 8)
	wantValue(t, "pointer", v, e, ptr(1, 3), api.OK)
	v, e = m.Load(ptr(1, 9), 1)
	wantValue(t, "part", v, e, part(1, 3, 2), api.OK)
	v, e = m.Load(ptr(1, 8), 4)
	wantValue(t, "four", v, e, num(0), api.ErrUndef)
	v, e = m.Load(ptr(1, 0), 8)
	wantValue(t, "uninitialized", v, e, num(0), api.ErrUndef)
}
