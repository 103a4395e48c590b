package eval

import (
	"lathe/api"
	"lathe/bits"
)

// made is what an instruction makes of values that were read as the types that it wants; how it ends.
func made(in api.Instr, a, b, c api.Val) (api.Val, int) {
	switch in.Op {
	case api.Udiv, api.Sdiv, api.Urem, api.Srem:
		return divided(in, a, b)
	case api.Shl, api.Lshr, api.Ashr:
		return shifted(in, a, b)
	case api.Zext, api.Sext, api.Trunc:
		return converted(in, a), endValue
	case api.Select:
		return chosen(a, b, c), endValue
	case api.Freeze:
		return frozen(a), endValue
	case api.Gep:
		return moved(a, b), endValue
	}
	return joined(in, a, b)
}

// divided asks first whether the division may be undefined: that goes ahead of what poison and any make of it.
func divided(in api.Instr, a, b api.Val) (api.Val, int) {
	if isPoison(b) || b == number(0) {
		return api.Val{}, endUndef
	}
	if isAny(b) {
		return api.Val{}, endLoose
	}
	isSigned := in.Op == api.Sdiv || in.Op == api.Srem
	if isSigned && b == number(bits.Mask(in.Type)) {
		switch {
		case isPoison(a):
			return api.Val{}, endUndef
		case isAny(a):
			return api.Val{}, endLoose
		}
	}
	return joined(in, a, b)
}

func shifted(in api.Instr, a, b api.Val) (api.Val, int) {
	// Even where a is any: most of the numbers that b may be make poison.
	if isAny(b) || isNumber(b) && b.Bits >= uint64(in.Type) {
		return api.Val{}, endValue
	}
	return joined(in, a, b)
}

// joined is what comes of any two values, where the operation has no more to ask of them.
func joined(in api.Instr, a, b api.Val) (api.Val, int) {
	switch {
	case isPoison(a) || isPoison(b):
		return api.Val{}, endValue
	case isAny(a) || isAny(b):
		return unflagged(in), endValue
	case in.Type == api.Ptr:
		return truth((a == b) == (in.Op == api.Eq)), endValue
	}
	return applied(in, a, b)
}

// unflagged is what comes of any number: any, but that some number may be what a flag rules out.
func unflagged(in api.Instr) api.Val {
	if in.Flags != 0 {
		return api.Val{}
	}
	return unknown()
}

// applied is what comes of two numbers.
func applied(in api.Instr, a, b api.Val) (api.Val, int) {
	v, end := bits.Apply(in.Op, in.Type, in.Flags, a.Bits, b.Bits)
	switch end {
	case endValue:
		return number(v), endValue
	case endPoison:
		return api.Val{}, endValue
	}
	return api.Val{}, end
}

func converted(in api.Instr, a api.Val) api.Val {
	if !isNumber(a) {
		return a
	}
	v, _ := bits.Convert(in.Op, in.N, in.Type, a.Bits)
	return number(v)
}

func chosen(a, b, c api.Val) api.Val {
	switch {
	case isPoison(a):
		return a
	case a == number(1):
		return b
	case a == number(0):
		return c
	case b == c:
		return b
	case isPoison(b) || isPoison(c):
		return api.Val{}
	}
	return unknown()
}

func frozen(a api.Val) api.Val {
	if isPoison(a) {
		return unknown()
	}
	return a
}

func moved(a, b api.Val) api.Val {
	switch {
	case isPoison(a) || isPoison(b):
		return api.Val{}
	case isAny(a) || isAny(b):
		return unknown()
	}
	a.Off += bits.Signed(64, b.Bits)
	return a
}

func isPoison(v api.Val) bool {
	return v.Kind == api.IsPoison
}

func isNumber(v api.Val) bool {
	return v.Kind == api.IsInt
}

func isAny(v api.Val) bool {
	return v.Kind == api.IsAny
}

func number(n uint64) api.Val {
	return api.Val{Kind: api.IsInt, Bits: n}
}

func unknown() api.Val {
	return api.Val{Kind: api.IsAny}
}

func truth(is bool) api.Val {
	if is {
		return number(1)
	}
	return number(0)
}
