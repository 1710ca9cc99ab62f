package ir_test

import (
	"math"
	"slices"
	"testing"

	"crosstree/api"
	"crosstree/ir"
)

// P8.1: what instructions read and write, and where they lead.

// full is an instruction whose operands all differ.
func full(op int) api.Insn {
	return api.Insn{Op: op, A: 11, B: 12, C: 13, W: 4, N: 40, Sign: "-", Args: []int{21, 22, 22, 20}}
}

func wantReads(t *testing.T, i api.Insn, want ...int) {
	t.Helper()
	if got := ir.Reads(i); !slices.Equal(got, want) {
		t.Errorf("Reads(%v) = %v, want %v", i, got, want)
	}
}

func wantWrites(t *testing.T, i api.Insn, want int) {
	t.Helper()
	if got := ir.Writes(i); got != want {
		t.Errorf("Writes(%v) = %d, want %d", i, got, want)
	}
}

func wantNext(t *testing.T, i api.Insn, pc int, want ...int) {
	t.Helper()
	if got := ir.Next(i, pc); !slices.Equal(got, want) {
		t.Errorf("Next(%v, %d) = %v, want %v", i, pc, got, want)
	}
}

func TestReadsAndWrites(t *testing.T) {
	for _, c := range []struct {
		op, writes int
		reads      []int
	}{
		{api.OpConst, 11, nil},
		{api.OpAddr, 11, nil},
		{api.OpAdd, 11, []int{12}},
		{api.OpIndex, 11, []int{12, 13}},
		{api.OpBin, 11, []int{12, 13}},
		{api.OpUn, 11, []int{12}},
		{api.OpFit, 11, []int{12}},
		{api.OpLoad, 11, []int{12}},
		{api.OpStore, -1, []int{11, 12}},
		{api.OpCopy, -1, []int{11, 12}},
		{api.OpMove, -1, []int{11, 12, 13}},
		{api.OpFill, -1, []int{11, 12, 13}},
		{api.OpMalloc, 11, []int{12}},
		{api.OpFree, -1, []int{11}},
		{api.OpCall, 11, []int{21, 22, 22, 20}},
		{api.OpCallP, 11, []int{12, 21, 22, 22, 20}},
		{api.OpJump, -1, nil},
		{api.OpIf, -1, []int{11}},
		{api.OpReturn, -1, []int{11}},
		{api.OpInput, 11, nil},
	} {
		wantReads(t, full(c.op), c.reads...)
		wantWrites(t, full(c.op), c.writes)
	}
}

// Reads and Writes ask nothing of the operands.
func TestReadsAndWritesOfAnyNumbers(t *testing.T) {
	wantReads(t, api.Insn{Op: api.OpReturn, A: -1})
	wantReads(t, api.Insn{Op: api.OpReturn, A: 0}, 0)
	wantReads(t, api.Insn{Op: api.OpReturn, A: -2}, -2)
	wantReads(t, api.Insn{Op: api.OpReturn, A: math.MinInt}, math.MinInt)
	wantReads(t, api.Insn{Op: api.OpIf, A: -1}, -1)
	wantReads(t, api.Insn{Op: api.OpFree, A: -1}, -1)
	wantReads(t, api.Insn{Op: api.OpStore, A: -1, B: -1}, -1, -1)
	wantReads(t, api.Insn{Op: api.OpCall})
	wantReads(t, api.Insn{Op: api.OpCallP}, 0)
	wantReads(t, api.Insn{Op: api.OpCallP, B: -1, Args: []int{math.MaxInt, -1, 0, 0, 0, 0, 0}}, -1, math.MaxInt, -1, 0, 0, 0, 0, 0)
	wantReads(t, api.Insn{Op: api.OpBin, B: 4, C: 4, Sign: "?"}, 4, 4)
	wantReads(t, api.Insn{Op: api.OpLoad, B: 7, W: 3}, 7)
	wantReads(t, api.Insn{Op: api.OpStore, A: 3, B: 4}, 3, 4)
	wantWrites(t, api.Insn{Op: api.OpStore, A: 3, B: 4}, -1)
	wantWrites(t, api.Insn{Op: api.OpConst}, 0)
	wantWrites(t, api.Insn{Op: api.OpConst, A: -5}, -5)
	wantWrites(t, api.Insn{Op: api.OpInput, A: math.MaxInt}, math.MaxInt)
	wantWrites(t, api.Insn{Op: api.OpReturn, A: -1}, -1)
	wantWrites(t, api.Insn{Op: api.OpMalloc, A: 9, N: -1}, 9)
}

var otherOps = []int{0, 21, 22, -1, -2, 255, 256, 257, 1 << 32, 1<<32 + api.OpConst, math.MaxInt, math.MinInt, math.MinInt + api.OpAdd}

func TestOtherOps(t *testing.T) {
	for _, op := range otherOps {
		wantReads(t, full(op))
		wantWrites(t, full(op), -1)
		wantNext(t, full(op), 5, 6)
	}
}

func TestNext(t *testing.T) {
	for op := range 22 {
		switch op {
		case api.OpJump, api.OpIf, api.OpReturn:
			continue
		}
		for _, pc := range []int{0, 5, 39, 40, -1, -2, 4000, 1 << 40} {
			wantNext(t, full(op), pc, pc+1)
		}
	}
	for _, pc := range []int{0, 5, 39, 40, -7, math.MaxInt, math.MinInt} {
		wantNext(t, full(api.OpReturn), pc)
		wantNext(t, api.Insn{Op: api.OpReturn, A: -1}, pc)
		for _, n := range []int{0, 1, 6, 40, -1, 4000, math.MaxInt, math.MinInt} {
			wantNext(t, api.Insn{Op: api.OpJump, N: int64(n)}, pc, n)
		}
	}
}

func TestNextOfIf(t *testing.T) {
	to := func(n int64) api.Insn { return api.Insn{Op: api.OpIf, A: 1, N: n} }
	wantNext(t, to(7), 2, 3, 7)
	wantNext(t, to(3), 2, 3)
	wantNext(t, to(2), 2, 3, 2)
	wantNext(t, to(1), 2, 3, 1)
	wantNext(t, to(4), 2, 3, 4)
	wantNext(t, to(0), 2, 3, 0)
	wantNext(t, to(-1), 2, 3, -1)
	wantNext(t, to(0), -1, 0)
	wantNext(t, to(-1), -1, 0, -1)
	wantNext(t, to(-4), -5, -4)
	wantNext(t, to(1<<32+3), 2, 3, 1<<32+3)
	wantNext(t, to(math.MinInt), 2, 3, math.MinInt)
	wantNext(t, to(math.MaxInt), math.MaxInt-1, math.MaxInt)
}
