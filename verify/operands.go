package verify

import (
	"lathe/api"
	"lathe/bits"
	"lathe/ir"
)

// operands holds each operand against the type that is wanted of it.
func (c checker) operands() {
	types := Types(c.f)
	c.each(func(at api.Place, in api.Instr) {
		for i, v := range in.Args {
			refuse(!isOperand(v), api.ErrForm, at)
			want := c.wanted(in, i)
			switch v.Kind {
			case api.Reg:
				refuse(!isFrom(0, api.MaxReg, v.N) || types[v.N] == api.Void, api.ErrReg, at)
				refuse(types[v.N] != want, api.ErrType, at)
			case api.Const:
				// Of an address the mask is 0, but a 0 isn't null.
				refuse(want == api.Ptr || v.Bits > bits.Mask(want), api.ErrType, at)
			case api.Global:
				refuse(!isFrom(0, len(c.module.Vars)-1, v.N), api.ErrName, at)
				fallthrough
			case api.Null:
				refuse(want != api.Ptr, api.ErrType, at)
			}
		}
	})
}

// isOperand tells whether an operand is of a kind, and has nothing that its kind has not.
func isOperand(v api.Value) bool {
	switch v.Kind {
	case api.Reg, api.Global:
		return v.Bits == 0
	case api.Const:
		return v.N == 0
	case api.Poison, api.Null:
		return v.N == 0 && v.Bits == 0
	}
	return false
}

// wanted is the type that an instruction wants of its operand i.
func (c checker) wanted(in api.Instr, i int) int {
	switch in.Op {
	case api.Zext, api.Sext, api.Trunc:
		return in.N
	case api.Select:
		if i == 0 {
			return 1
		}
	case api.Load:
		return api.Ptr
	case api.Store:
		if i == 1 {
			return api.Ptr
		}
	case api.Gep:
		if i == 0 {
			return api.Ptr
		}
		return 64
	case api.Call:
		params, _, _ := ir.Callee(c.module, in.N)
		return params[i]
	case api.Brif:
		return 1
	}
	return in.Type
}
