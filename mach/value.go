package mach

import (
	"crosstree/api"
)

func number(n int64) api.Value {
	return api.Value{N: n}
}

// pointer returns the one to the beginning of a block.
func pointer(block int) api.Value {
	return api.Value{Block: block}
}

func isNumber(v api.Value) bool {
	return v.Block == 0 && v.Frag == 0
}

func isPointer(v api.Value) bool {
	return v.Block > 0 && v.Frag == 0
}

// Bin returns what two values make.
func Bin(sign string, a, b api.Value) (api.Value, api.Errno) {
	switch {
	case !isSign(sign):
		return api.Value{}, api.ErrArg
	case isNumber(a) && isNumber(b):
		return ofNumbers(sign, a.N, b.N)
	case isPointer(a) && isPointer(b) && a.Block == b.Block:
		return ofPlaces(sign, a.N, b.N)
	case isPointer(a) && isPointer(b), isPointer(a) && b == number(0), a == number(0) && isPointer(b):
		return ofUnequal(sign)
	}
	return api.Value{}, api.ErrUndef
}

func isSign(sign string) bool {
	switch sign {
	case "+", "-", "*", "/", "%", "&", "|", "^", "<<", ">>", "==", "!=", "<", "<=", ">", ">=":
		return true
	}
	return false
}

func ofNumbers(sign string, a, b int64) (api.Value, api.Errno) {
	if b == 0 && (sign == "/" || sign == "%") {
		return api.Value{}, api.ErrUndef
	}
	return number(computed(sign, a, b)), api.OK
}

// computed returns what two numbers make, where none is divided by 0.
func computed(sign string, a, b int64) int64 {
	distance := uint64(b) % 64
	switch sign {
	case "+":
		return a + b
	case "-":
		return a - b
	case "*":
		return a * b
	case "/":
		return a / b
	case "%":
		return a % b
	case "&":
		return a & b
	case "|":
		return a | b
	case "^":
		return a ^ b
	case "<<":
		return a << distance
	case ">>":
		return a >> distance
	}
	if holds(sign, a, b) {
		return 1
	}
	return 0
}

// holds tells whether a relation holds.
func holds(sign string, a, b int64) bool {
	switch sign {
	case "==":
		return a == b
	case "!=":
		return a != b
	case "<":
		return a < b
	case "<=":
		return a <= b
	case ">":
		return a > b
	case ">=":
		return a >= b
	}
	return false
}

// ofPlaces returns what two pointers to places in one block make.
func ofPlaces(sign string, a, b int64) (api.Value, api.Errno) {
	switch sign {
	case "-", "==", "!=", "<", "<=", ">", ">=":
		return ofNumbers(sign, a, b)
	}
	return api.Value{}, api.ErrUndef
}

// ofUnequal returns what a pointer makes with a pointer to another block, or with 0.
func ofUnequal(sign string) (api.Value, api.Errno) {
	switch sign {
	case "==":
		return number(0), api.OK
	case "!=":
		return number(1), api.OK
	}
	return api.Value{}, api.ErrUndef
}

// Un returns what a sign makes of a value.
func Un(sign string, a api.Value) (api.Value, api.Errno) {
	if sign != "-" && sign != "~" {
		return api.Value{}, api.ErrArg
	}
	if !isNumber(a) {
		return api.Value{}, api.ErrUndef
	}
	if sign == "-" {
		return number(-a.N), api.OK
	}
	return number(^a.N), api.OK
}

// Fit returns a value as one of w bytes.
func Fit(v api.Value, w int) (api.Value, api.Errno) {
	switch {
	case w != 1 && w != 4 && w != 8:
		return api.Value{}, api.ErrArg
	case w == 8, w == 1 && v.Frag > 0:
		return v, api.OK
	case isNumber(v) && w == 4:
		return number(int64(int32(v.N))), api.OK
	case isNumber(v):
		return number(int64(uint8(v.N))), api.OK
	}
	return api.Value{}, api.ErrUndef
}
