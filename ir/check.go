package ir

import (
	"crosstree/api"
)

// maxFns is how many functions a program may have.
const maxFns = 200

// Check returns the place of the first error of a program, its function and the index in its code, and the error; zeros if the program is well-formed.
func Check(p api.Prog) (int, int, api.Errno) {
	if len(p.Fns) > maxFns || len(p.Sites) > api.MaxSites {
		return 0, 0, api.ErrSize
	}
	if !within(p.Main, len(p.Fns)) || !siteEach(p) {
		return 0, 0, api.ErrRange
	}
	for n := range p.Fns {
		if e := head(p, n); e != api.OK {
			return n, 0, e
		}
		if pc, e := body(p, p.Fns[n]); e != api.OK {
			return n, pc, e
		}
	}
	return 0, 0, api.OK
}

// siteEach tells whether the first sites are those of the functions, one for each, and no others are.
func siteEach(p api.Prog) bool {
	if len(p.Sites) < len(p.Fns) {
		return false
	}
	for k, s := range p.Sites {
		if (s.Kind == api.SiteFunc) != (k < len(p.Fns)) {
			return false
		}
	}
	return true
}

// head checks what a function has beside its instructions.
func head(p api.Prog, n int) api.Errno {
	f := p.Fns[n]
	if len(f.Code) == 0 || len(f.Code) > api.MaxCode || f.Regs > api.MaxRegs || f.Regs < f.Params || f.Params < 0 {
		return api.ErrSize
	}
	for _, k := range f.Locals {
		if !isSite(p, int64(k), api.SiteLocal) || p.Sites[k].Func != n {
			return api.ErrRange
		}
	}
	return api.OK
}

// isSite tells whether k is the index of a site of that kind.
func isSite(p api.Prog, k int64, kind int) bool {
	return within(k, len(p.Sites)) && p.Sites[k].Kind == kind
}

// body checks the instructions of a function, and tells the index of the first wrong one.
func body(p api.Prog, f api.Fn) (int, api.Errno) {
	registers := allWithin(f.Regs)
	code := allWithin(len(f.Code))
	for pc, i := range f.Code {
		if row(i.Op) == "" {
			return pc, api.ErrArg
		}
		if !operands(p, f, i, registers) || !code(Next(i, pc)...) {
			return pc, api.ErrRange
		}
	}
	return 0, api.OK
}

// allWithin returns what tells whether all numbers are indexes in a list of that length.
func allWithin(length int) func(...int) bool {
	return func(l ...int) bool {
		for _, n := range l {
			if !within(n, length) {
				return false
			}
		}
		return true
	}
}

// operands tells whether the registers and the other operands of an instruction are as its row says.
func operands(p api.Prog, f api.Fn, i api.Insn, registers func(...int) bool) bool {
	for _, c := range row(i.Op) {
		if !registers(read(i, c)...) || !operand(p, f, i, c) || c == '=' && !registers(i.A) {
			return false
		}
	}
	return true
}

// operand tells whether an operand that is no register is as the letter of its row asks.
func operand(p api.Prog, f api.Fn, i api.Insn, c rune) bool {
	switch c {
	case 's':
		return within(i.B, len(p.Sites)) && p.Sites[i.B].Kind != 0
	case 'h':
		return isSite(p, i.N, api.SiteHeap)
	case 'f':
		return within(i.N, len(p.Fns)) && p.Fns[i.N].Params == len(i.Args)
	case '6':
		return len(i.Args) <= api.MaxParams
	case 'w':
		return i.W == 1 || i.W == 4 || i.W == 8
	case 'n':
		return i.N >= 0 && i.N <= api.MaxSize
	case 'j':
		return within(i.N, len(f.Code))
	case '1':
		return i.Sign == "-" || i.Sign == "~"
	case '2':
		return between(i.Sign)
	}
	return true
}

// between tells whether a sign may stand in an OpBin.
func between(sign string) bool {
	switch sign {
	case "+", "-", "*", "/", "%", "&", "|", "^", "<<", ">>", "==", "!=", "<", "<=", ">", ">=":
		return true
	}
	return false
}
