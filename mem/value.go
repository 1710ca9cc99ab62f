package mem

import (
	"crosstree/api"
)

// The kinds of bytes that hold something, as api's comment on Byte numbers them.
const (
	kindNumber = 1
	kindPart   = 2
)

func isNumber(v api.Value) bool {
	return v.Block == 0 && v.Frag == 0
}

func isPointer(v api.Value) bool {
	return v.Block > 0 && v.Frag == 0
}

func isPart(v api.Value) bool {
	return v.Frag >= 1 && v.Frag <= api.Pointer
}

func isWidth(w int) bool {
	return w == 1 || w == 4 || w == 8
}

func isLength(n int64) bool {
	return n >= 0 && n <= api.MaxSize
}

func setNumber(bytes []api.Byte, n uint8) {
	for i := range bytes {
		bytes[i] = api.Byte{Kind: kindNumber, V: n}
	}
}

// part returns the byte of a pointer with the number frag, from 1 on.
func part(p api.Value, frag int) api.Byte {
	p.Frag = frag
	return api.Byte{Kind: kindPart, P: p}
}

// encode makes bytes those of a value, and tells whether their width takes it; if not, they are left as they were.
func encode(bytes []api.Byte, v api.Value) bool {
	switch {
	case isNumber(v):
		for i := range bytes {
			bytes[i] = api.Byte{Kind: kindNumber, V: uint8(v.N >> (8 * i))}
		}
		return true
	case isPointer(v) && len(bytes) == api.Pointer:
		for i := range bytes {
			bytes[i] = part(v, i+1)
		}
		return true
	case isPart(v) && len(bytes) == 1:
		bytes[0] = part(v, v.Frag)
		return true
	}
	return false
}

// decode returns the value that 1, 4 or 8 bytes hold, and whether they hold one.
func decode(bytes []api.Byte) (api.Value, bool) {
	switch first := bytes[0]; {
	case first.Kind == kindNumber:
		return number(bytes)
	case first.Kind == kindPart && len(bytes) == 1:
		return first.P, true
	case first.Kind == kindPart && len(bytes) == api.Pointer:
		return pointer(bytes)
	}
	return api.Value{}, false
}

// number returns the number of bytes that are all numbers, the least significant one first.
func number(bytes []api.Byte) (api.Value, bool) {
	var sum uint64
	for i, b := range bytes {
		if b.Kind != kindNumber {
			return api.Value{}, false
		}
		sum |= uint64(b.V) << (8 * i)
	}
	if len(bytes) == 4 {
		return api.Value{N: int64(int32(sum))}, true
	}
	return api.Value{N: int64(sum)}, true
}

// pointer returns the pointer whose parts the bytes are, in order. A part may have been stored that no pointer has, so that what the parts are of is asked too.
func pointer(bytes []api.Byte) (api.Value, bool) {
	p := bytes[0].P
	p.Frag = 0
	if !isPointer(p) {
		return api.Value{}, false
	}
	for i, b := range bytes {
		if b != part(p, i+1) {
			return api.Value{}, false
		}
	}
	return p, true
}
