package mem_test

import (
	"math"
	"slices"
	"testing"

	"crosstree/api"
	"crosstree/mem"
)

// R1, R3, R4, R5 and P1: whose memory it is, that memories are apart, and that every call ends.

func TestBytesAreTheCallers(t *testing.T) {
	for _, ended := range []bool{false, true} {
		m := memory(t, 12, 12)
		counted(t, m, 2)
		kept := counted(t, m, 1)
		if ended {
			m.End(1)
		}
		l := m.Bytes(1)
		l = l[:cap(l)]
		for i := range l {
			l[i] = api.Byte{Kind: 2, P: part(1, 1, 1)}
		}
		_ = append(m.Bytes(1), numbers(99, 99)...)
		wantBytes(t, m, 1, kept)
		wantBytes(t, m, 2, kept)
	}
}

func TestBytesStayAsTheyWereAsked(t *testing.T) {
	m := memory(t, 8)
	kept := counted(t, m, 1)
	want := slices.Clone(kept)
	m.Fill(ptr(1, 0), num(0), num(8))
	m.Store(ptr(1, 0), 8, ptr(1, 0))
	if !slices.Equal(kept, want) {
		t.Errorf("an answer became %v", kept)
	}
}

func TestMemoriesAreApart(t *testing.T) {
	a, b := memory(t, 8), memory(t, 8, 4)
	kept := counted(t, b, 1)
	wantErr(t, "fill", a.Fill(ptr(1, 0), num(77), num(8)), api.OK)
	wantErr(t, "end", a.End(1), api.OK)
	wantBlock(t, b, 1, 11, 8, true)
	wantBytes(t, b, 1, kept)
	wantBlock(t, mem.New(), 1, 0, 0, false)
	if n, e := a.Alloc(1, 1, false); n != 2 || e != api.OK {
		t.Errorf("the next block: %d, %v", n, e)
	}
}

// Blocks that were allocated long ago are the same ones, however many came behind them.
func TestManyBlocks(t *testing.T) {
	m := mem.New()
	for i := range api.MaxBlocks {
		b, _ := m.Alloc(i, 8, false)
		wantErr(t, "store", m.Store(ptr(b, 0), 8, ptr(b, int64(i))), api.OK)
		if i%3 == 0 {
			m.End(b / 2)
		}
	}
	for i := range api.MaxBlocks {
		wantBytes(t, m, i+1, parts(i+1, int64(i), 1, 2, 3, 4, 5, 6, 7, 8))
	}
}

func TestEveryCallEnds(t *testing.T) {
	ints := []int{math.MinInt, math.MinInt + 1, -4097, -1, 0, 1, 2, 3, 4, 8, 4096, 4097, 1 << 32, math.MaxInt - 1, math.MaxInt}
	var values []api.Value
	for _, n := range ints {
		for _, block := range []int{math.MinInt, -1, 0, 1, 2, 3, math.MaxInt} {
			for _, frag := range []int{math.MinInt, -1, 0, 1, 8, 9, math.MaxInt} {
				values = append(values, part(block, int64(n), frag))
			}
		}
	}
	for _, m := range []*mem.Mem{nil, {}, mem.New(), memory(t, 4096, 1)} {
		for _, v := range values {
			for _, n := range ints {
				m.Add(v, int64(n))
				m.Load(v, n)
				m.Store(v, n, values[(n&0xff)%len(values)])
				m.Copy(v, ptr(1, 0), int64(n))
				m.Copy(ptr(1, 1), v, int64(n))
				m.Fill(v, num(int64(n)), num(int64(n)))
				m.Fill(ptr(1, 0), num(0), v)
				m.Fill(ptr(1, 0), v, num(0))
			}
		}
		for _, n := range ints {
			m.Block(n)
			m.Bytes(n)
			m.Alloc(n, n, true)
			m.End(n)
		}
	}
}
