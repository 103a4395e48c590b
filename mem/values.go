package mem

import (
	"lathe/api"
	"lathe/bits"
)

const (
	mostBits  = 64 // the greatest type of numbers
	ptrPieces = 8  // how many pieces an address has
)

// Pack: a value of a type as bytes.
func Pack(t int, v api.Val) []api.Byte {
	bytes := make([]api.Byte, width(t))
	v = Norm(t, v)
	for i := range bytes {
		switch {
		case v.Kind == api.IsInt:
			bytes[i] = number(byte(v.Bits >> (8 * i)))
		case v.Kind == api.IsAddr:
			bytes[i] = piece(v.Block, v.Off, i)
		case v.Kind == api.IsAny && isNumber(t):
			bytes[i].Kind = api.ByteAny
		}
	}
	return bytes
}

// Unpack: the value of a type that bytes are.
func Unpack(t int, b []api.Byte) api.Val {
	switch {
	case len(b) == 0 || len(b) != width(t):
		return api.Val{}
	case t == api.Ptr:
		return address(b)
	}
	return written(t, b)
}

// Norm: a value as one of a type.
func Norm(t int, v api.Val) api.Val {
	switch {
	case v.Kind == api.IsInt && isNumber(t):
		return api.Val{Kind: api.IsInt, Bits: v.Bits & bits.Mask(t)}
	case v.Kind == api.IsAddr && t == api.Ptr:
		return api.Val{Kind: api.IsAddr, Block: v.Block, Off: v.Off}
	case v.Kind == api.IsAny && width(t) > 0:
		return api.Val{Kind: api.IsAny}
	}
	return api.Val{}
}

func isNumber(t int) bool {
	return 1 <= t && t <= mostBits
}

// width is how many bytes a type has.
func width(t int) int {
	switch {
	case isNumber(t):
		return (t + 7) / 8
	case t == api.Ptr:
		return ptrPieces
	}
	return 0
}

func number(b byte) api.Byte {
	return api.Byte{Kind: api.ByteInt, Bits: b}
}

func piece(block int, off int64, i int) api.Byte {
	return api.Byte{Kind: api.ByteAddr, Block: block, Off: off, I: i}
}

// address is the one whose pieces all bytes are, in order; else poison.
func address(b []api.Byte) api.Val {
	for i, one := range b {
		if one.Kind != api.ByteAddr || one.Block != b[0].Block || one.Off != b[0].Off || one.I != i {
			return api.Val{}
		}
	}
	return api.Val{Kind: api.IsAddr, Block: b[0].Block, Off: b[0].Off}
}

// written is the number of type t that bytes write, the lowest first; or any, or poison.
func written(t int, b []api.Byte) api.Val {
	v := api.Val{Kind: api.IsInt}
	for i, one := range b {
		switch one.Kind {
		case api.ByteInt:
			v.Bits |= uint64(one.Bits) << (8 * i)
		case api.ByteAny:
			v.Kind = api.IsAny
		default:
			return api.Val{}
		}
	}
	return Norm(t, v)
}
