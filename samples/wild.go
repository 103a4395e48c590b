package samples

import (
	"math"

	"lathe/api"
)

// number is mostly a small one, so that numbers of registers and blocks meet.
func (r *Maker) number() int {
	if r.In(6) {
		return OneOf(r, math.MinInt, -1<<32, -3, -2, 9, 64, api.Ptr, 66, api.MaxReg, api.MaxReg+1, 1<<40, math.MaxInt)
	}
	return r.Below(9) - 1
}

func (r *Maker) numbers() []int {
	var list []int
	for range r.Below(4) {
		list = append(list, r.number())
	}
	return list
}

// Value is an operand of any data, mostly a register.
func (r *Maker) Value() api.Value {
	if r.In(65) {
		return api.Value{Kind: api.Reg, N: r.number()}
	}
	return api.Value{Kind: OneOf(r, 1, 2, 3, 4, 5, r.number()), N: OneOf(r, 0, r.number()), Bits: OneOf(r, 0, 1, 8, r.Bits(), -r.Bits()%16)}
}

// Instr is an instruction of any data.
func (r *Maker) Instr() api.Instr {
	in := api.Instr{Op: r.Below(36), Reg: r.number(), Type: OneOf(r, 0, 8, 8, api.Ptr, r.number()), N: r.number(), Flags: OneOf(r, 0, r.number()), To: r.numbers()}
	if r.In(3) {
		in.Op = r.number()
	}
	for range r.Below(4) {
		in.Args = append(in.Args, r.Value())
	}
	return in
}

// Wild is a function of any data; its lists have spare room.
func (r *Maker) Wild() api.Func {
	f := api.Func{Name: "f", Params: r.numbers(), Ret: r.number()}
	for range r.Below(6) {
		var b api.Block
		for range r.Below(8) {
			b.Code = append(b.Code, r.Instr())
		}
		if r.In(80) {
			b.Code = append(b.Code, api.Instr{Op: OneOf(r, api.Br, api.Brif, api.Brif, api.Ret), Reg: -1, To: []int{r.Below(6), r.Below(6)}})
		}
		f.Blocks = append(f.Blocks, b)
	}
	return f
}
