package mach_test

import (
	"math"
	"testing"

	"crosstree/api"
	"crosstree/mach"
)

// P11.1: Bin, Un and Fit.

func num(n int64) api.Value { return api.Value{N: n} }

func ptr(block int, n int64) api.Value { return api.Value{N: n, Block: block} }

func part(block int, n int64, frag int) api.Value { return api.Value{N: n, Block: block, Frag: frag} }

var signs = []string{"+", "-", "*", "/", "%", "&", "|", "^", "<<", ">>", "==", "!=", "<", "<=", ">", ">="}

// oddValues are neither numbers nor pointers nor parts.
var oddValues = []api.Value{
	ptr(-1, 0), ptr(-1, 1), ptr(math.MinInt, 0), part(0, 0, -1), part(0, 1, 9), part(1, 1, -1), part(1, 1, 9), part(1, 0, math.MinInt), part(1, 0, math.MaxInt), part(-1, 0, -1),
}

var someParts = []api.Value{part(1, 0, 1), part(1, 8, 8), part(2, 0, 5), part(0, 0, 1), part(-1, 0, 3)}

// told is a value, or the error that there is instead.
type told struct {
	v api.Value
	e api.Errno
}

func ok(v api.Value) told { return told{v, api.OK} }

func fails(e api.Errno) told { return told{e: e} }

func wantBin(t *testing.T, sign string, a, b api.Value, want told) {
	t.Helper()
	if v, e := mach.Bin(sign, a, b); (told{v, e}) != want {
		t.Errorf("%v %s %v: %v, %v, not %v", a, sign, b, v, e, want)
	}
}

func wantUn(t *testing.T, sign string, a api.Value, want told) {
	t.Helper()
	if v, e := mach.Un(sign, a); (told{v, e}) != want {
		t.Errorf("%s %v: %v, %v, not %v", sign, a, v, e, want)
	}
}

func wantFit(t *testing.T, v api.Value, w int, want told) {
	t.Helper()
	if got, e := mach.Fit(v, w); (told{got, e}) != want {
		t.Errorf("%v of %d bytes: %v, %v, not %v", v, w, got, e, want)
	}
}

func TestBinOfNumbers(t *testing.T) {
	for _, c := range []struct {
		sign       string
		a, b, want int64
	}{
		{"+", 2, 3, 5}, {"+", math.MaxInt64, 1, math.MinInt64}, {"+", math.MinInt64, -1, math.MaxInt64}, {"+", math.MinInt64, math.MinInt64, 0},
		{"-", 2, 3, -1}, {"-", math.MinInt64, 1, math.MaxInt64}, {"-", 0, math.MinInt64, math.MinInt64},
		{"*", -4, 5, -20}, {"*", 1 << 62, 2, math.MinInt64}, {"*", 1 << 62, 4, 0}, {"*", math.MinInt64, -1, math.MinInt64}, {"*", 1<<32 + 1, 1<<32 + 1, 1<<33 + 1},
		{"/", 7, 2, 3}, {"/", -7, 2, -3}, {"/", 7, -2, -3}, {"/", -7, -2, 3}, {"/", 0, 5, 0}, {"/", math.MinInt64, -1, math.MinInt64}, {"/", math.MinInt64, 1, math.MinInt64},
		{"%", 7, 2, 1}, {"%", -7, 2, -1}, {"%", 7, -2, 1}, {"%", -7, -2, -1}, {"%", math.MinInt64, -1, 0}, {"%", 3, math.MinInt64, 3},
		{"&", 12, 10, 8}, {"&", -1, 77, 77}, {"|", 12, 10, 14}, {"|", -8, 1, -7}, {"^", 12, 10, 6}, {"^", -1, 5, -6},
		{"<<", 1, 3, 8}, {"<<", 1, 63, math.MinInt64}, {"<<", 1, 64, 1}, {"<<", 1, 65, 2}, {"<<", 3, -1, math.MinInt64}, {"<<", 1, -64, 1}, {"<<", 1, -62, 4}, {"<<", 5, math.MinInt64, 5}, {"<<", -1, 4, -16},
		{">>", 8, 3, 1}, {">>", -1, 1, -1}, {">>", -8, 1, -4}, {">>", -7, 1, -4}, {">>", math.MinInt64, 63, -1}, {">>", math.MaxInt64, 62, 1}, {">>", 7, 64, 7}, {">>", math.MinInt64, -1, -1}, {">>", 16, -61, 2}, {">>", math.MaxInt64, -1, 0},
		{"==", 4, 4, 1}, {"==", 4, 5, 0}, {"==", 0, 0, 1}, {"!=", 4, 4, 0}, {"!=", 4, 5, 1}, {"!=", 1 << 32, 0, 1},
		{"<", 4, 5, 1}, {"<", 5, 5, 0}, {"<", 6, 5, 0}, {"<", math.MinInt64, math.MaxInt64, 1}, {"<", -1, 0, 1},
		{"<=", 4, 5, 1}, {"<=", 5, 5, 1}, {"<=", 6, 5, 0}, {"<=", math.MaxInt64, math.MinInt64, 0},
		{">", 4, 5, 0}, {">", 5, 5, 0}, {">", 6, 5, 1}, {">", math.MaxInt64, math.MinInt64, 1},
		{">=", 4, 5, 0}, {">=", 5, 5, 1}, {">=", 6, 5, 1}, {">=", math.MinInt64, math.MaxInt64, 0},
	} {
		wantBin(t, c.sign, num(c.a), num(c.b), ok(num(c.want)))
	}
}

func TestDivisionByZero(t *testing.T) {
	for _, a := range []int64{0, 1, -1, math.MinInt64} {
		for _, sign := range signs {
			_, e := mach.Bin(sign, num(a), num(0))
			if undefined := sign == "/" || sign == "%"; (e == api.ErrUndef) != undefined || (e == api.OK) == undefined {
				t.Errorf("%d %s 0: %v", a, sign, e)
			}
		}
		wantBin(t, "/", num(a), num(0), fails(api.ErrUndef))
		wantBin(t, "%", num(a), num(0), fails(api.ErrUndef))
	}
}

func TestBinOfPointersToOneBlock(t *testing.T) {
	for _, c := range []struct {
		sign       string
		a, b, want int64
	}{
		{"-", 12, 4, 8}, {"-", 4, 12, -8}, {"-", 5, 5, 0}, {"-", math.MinInt64, 1, math.MaxInt64},
		{"==", 4, 4, 1}, {"==", 4, 5, 0}, {"!=", 4, 4, 0}, {"!=", 4, 5, 1},
		{"<", 4, 5, 1}, {"<", 5, 5, 0}, {"<", 6, 5, 0}, {"<=", 4, 5, 1}, {"<=", 5, 5, 1}, {"<=", 6, 5, 0},
		{">", 4, 5, 0}, {">", 5, 5, 0}, {">", 6, 5, 1}, {">=", 4, 5, 0}, {">=", 5, 5, 1}, {">=", 6, 5, 1}, {"<", -1, 0, 1},
	} {
		wantBin(t, c.sign, ptr(3, c.a), ptr(3, c.b), ok(num(c.want)))
	}
	for _, sign := range []string{"+", "*", "/", "%", "&", "|", "^", "<<", ">>"} {
		wantBin(t, sign, ptr(3, 4), ptr(3, 4), fails(api.ErrUndef))
		wantBin(t, sign, ptr(3, 4), ptr(3, 0), fails(api.ErrUndef))
	}
}

func TestBinOfPointersToTwoBlocks(t *testing.T) {
	for _, sign := range signs {
		for _, n := range []int64{0, 4, 5, 6} {
			want := fails(api.ErrUndef)
			switch sign {
			case "==":
				want = ok(num(0))
			case "!=":
				want = ok(num(1))
			}
			wantBin(t, sign, ptr(3, 5), ptr(2, n), want)
			wantBin(t, sign, ptr(2, n), ptr(3, 5), want)
		}
	}
}

func TestBinOfAPointerAndANumber(t *testing.T) {
	for _, sign := range signs {
		for _, p := range []api.Value{ptr(1, 0), ptr(3, 8), ptr(math.MaxInt, -1)} {
			for _, n := range []int64{0, 1, -1, 8, math.MinInt64} {
				want := fails(api.ErrUndef)
				switch {
				case n == 0 && sign == "==":
					want = ok(num(0))
				case n == 0 && sign == "!=":
					want = ok(num(1))
				}
				wantBin(t, sign, p, num(n), want)
				wantBin(t, sign, num(n), p, want)
			}
		}
	}
}

func TestBinOfOtherValues(t *testing.T) {
	others := append([]api.Value{num(0), num(1), ptr(1, 0), ptr(1, 1)}, someParts...)
	others = append(others, oddValues...)
	for _, sign := range signs {
		for _, a := range append(oddValues, someParts...) {
			for _, b := range others {
				wantBin(t, sign, a, b, fails(api.ErrUndef))
				wantBin(t, sign, b, a, fails(api.ErrUndef))
			}
		}
	}
}

func TestBinSigns(t *testing.T) {
	for _, sign := range []string{"", " ", "+ ", " +", "+ -", "=", "!", "~", "&&", "||", "->", "<<<", ">>=", "<=>", "===", ".", "-\x00", "a", "%d", "\xff", "--"} {
		for _, a := range append([]api.Value{num(1), num(0), ptr(1, 0), part(1, 0, 1)}, oddValues...) {
			wantBin(t, sign, a, num(0), fails(api.ErrArg))
			wantBin(t, sign, num(3), a, fails(api.ErrArg))
			wantBin(t, sign, a, a, fails(api.ErrArg))
		}
	}
}

func TestUn(t *testing.T) {
	for _, c := range []struct{ n, minus, not int64 }{{0, 0, -1}, {5, -5, -6}, {-5, 5, 4}, {-1, 1, 0}, {math.MinInt64, math.MinInt64, math.MaxInt64}, {math.MaxInt64, -math.MaxInt64, math.MinInt64}, {1 << 32, -1 << 32, -1<<32 - 1}} {
		wantUn(t, "-", num(c.n), ok(num(c.minus)))
		wantUn(t, "~", num(c.n), ok(num(c.not)))
	}
	others := append([]api.Value{ptr(1, 0), ptr(1, 4)}, someParts...)
	others = append(others, oddValues...)
	for _, v := range others {
		wantUn(t, "-", v, fails(api.ErrUndef))
		wantUn(t, "~", v, fails(api.ErrUndef))
	}
	for _, sign := range []string{"", "!", "+", "*", "&", "--", "-~", "- ", "~~"} {
		for _, v := range append(others, num(1)) {
			wantUn(t, sign, v, fails(api.ErrArg))
		}
	}
}

func TestFitOfNumbers(t *testing.T) {
	for _, c := range []struct{ n, one, four int64 }{
		{0, 0, 0}, {1, 1, 1}, {-1, 255, -1}, {127, 127, 127}, {128, 128, 128}, {255, 255, 255}, {256, 0, 256}, {300, 44, 300}, {-300, 212, -300},
		{math.MaxInt32, 255, math.MaxInt32}, {1 << 31, 0, math.MinInt32}, {-1 << 31, 0, math.MinInt32}, {-1<<31 - 1, 255, math.MaxInt32}, {1<<32 + 7, 7, 7}, {1<<32 - 1, 255, -1},
		{math.MaxInt64, 255, -1}, {math.MinInt64, 0, 0}, {0x123456789a, 0x9a, 0x3456789a},
	} {
		wantFit(t, num(c.n), 1, ok(num(c.one)))
		wantFit(t, num(c.n), 4, ok(num(c.four)))
		wantFit(t, num(c.n), 8, ok(num(c.n)))
	}
}

func TestFitOfOtherValues(t *testing.T) {
	for _, v := range append([]api.Value{ptr(1, 0), ptr(2, 300), ptr(-1, 3)}, oddValues...) {
		wantFit(t, v, 8, ok(v))
		wantFit(t, v, 4, fails(api.ErrUndef))
		if v.Frag <= 0 {
			wantFit(t, v, 1, fails(api.ErrUndef))
		}
	}
	for _, v := range append([]api.Value{part(1, 1, 9), part(0, 300, 12), part(-1, 0, math.MaxInt)}, someParts...) {
		wantFit(t, v, 8, ok(v))
		wantFit(t, v, 4, fails(api.ErrUndef))
		wantFit(t, v, 1, ok(v))
	}
	for _, w := range []int{0, 2, 3, 5, 7, 9, 16, -1, -8, math.MaxInt, math.MinInt} {
		for _, v := range append([]api.Value{num(0), num(5), ptr(1, 0), part(1, 0, 1)}, oddValues...) {
			wantFit(t, v, w, fails(api.ErrArg))
		}
	}
}
