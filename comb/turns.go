package comb

import (
	mathbits "math/bits"

	"lathe/api"
	"lathe/bits"
)

// swapped is what rule 2 makes of the instruction.
func (s spot) swapped() (api.Instr, bool) {
	switch s.in.Op {
	case api.Add, api.Mul, api.And, api.Or, api.Xor, api.Eq, api.Ne:
		x, y := s.in.Args[0], s.in.Args[1]
		if x.Kind != api.Reg && y.Kind == api.Reg {
			return s.with(s.in.Op, y, x), true
		}
	}
	return api.Instr{}, false
}

// turned is what rules 13 to 20 make of the instruction.
func (s spot) turned() (api.Instr, bool) {
	switch s.in.Op {
	case api.Zext, api.Sext, api.Trunc:
		return s.convertedOnce()
	case api.Select:
		return s.chosenOtherwise()
	}
	if len(s.in.Args) != 2 || s.in.Args[1].Kind != api.Const {
		return api.Instr{}, false
	}
	x, c := s.in.Args[0], s.in.Args[1].Bits
	switch s.in.Op {
	case api.Sub:
		return s.with(api.Add, x, s.apply(api.Sub, 0, c)), s.in.Flags == 0
	case api.Mul:
		if in, ok := s.shifted(x, c); ok {
			return in, true
		}
		return s.joined(x, c)
	case api.Udiv, api.Urem:
		return s.shifted(x, c)
	case api.Add, api.And, api.Or, api.Xor:
		return s.joined(x, c)
	case api.Eq, api.Ne:
		return s.compared(x, c)
	}
	return api.Instr{}, false
}

// apply is what an operation makes of two numbers of the instruction's width.
func (s spot) apply(op int, a, b uint64) api.Value {
	v, _ := bits.Apply(op, s.in.Type, 0, a, b)
	return number(v)
}

// shifted is what rules 14 to 16 make of x and a power of two.
func (s spot) shifted(x api.Value, c uint64) (api.Instr, bool) {
	k := mathbits.TrailingZeros64(c)
	if mathbits.OnesCount64(c) != 1 || k < 1 || k >= s.in.Type {
		return api.Instr{}, false
	}
	switch s.in.Op {
	case api.Mul:
		return s.with(api.Shl, x, number(uint64(k))), s.in.Flags == 0
	case api.Udiv:
		return s.with(api.Lshr, x, number(uint64(k))), true
	}
	return s.with(api.And, x, number(c-1)), true
}

// joined is what rule 17 makes of y and a Const.
func (s spot) joined(y api.Value, c uint64) (api.Instr, bool) {
	x, d, ok := s.madeBy(s.in.Op, y)
	if !ok || s.in.Flags != 0 {
		return api.Instr{}, false
	}
	return s.with(s.in.Op, x, s.apply(s.in.Op, d, c)), true
}

// compared is what rule 18 makes of y and a Const.
func (s spot) compared(y api.Value, c uint64) (api.Instr, bool) {
	if x, d, ok := s.madeBy(api.Add, y); ok {
		return s.with(s.in.Op, x, s.apply(api.Sub, c, d)), true
	}
	if x, d, ok := s.madeBy(api.Xor, y); ok {
		return s.with(s.in.Op, x, s.apply(api.Xor, c, d)), true
	}
	return api.Instr{}, false
}

// madeBy tells of which x and which Const the maker of y makes it, if it is of this Op and has no flags.
func (s spot) madeBy(op int, y api.Value) (api.Value, uint64, bool) {
	maker := s.makerOf(y)
	if maker.Op != op || maker.Flags != 0 || maker.Args[1].Kind != api.Const {
		return api.Value{}, 0, false
	}
	return maker.Args[0], maker.Args[1].Bits, true
}

// convertedOnce is what rule 19 makes of a conversion.
func (s spot) convertedOnce() (api.Instr, bool) {
	maker := s.makerOf(s.in.Args[0])
	if maker.Op != s.in.Op {
		return api.Instr{}, false
	}
	in := s.with(s.in.Op, maker.Args[0])
	in.N = maker.N
	return in, true
}

// chosenOtherwise is what rule 20 makes of a Select.
func (s spot) chosenOtherwise() (api.Instr, bool) {
	x, d, ok := s.madeBy(api.Xor, s.in.Args[0])
	if !ok || d != 1 {
		return api.Instr{}, false
	}
	return s.with(api.Select, x, s.in.Args[2], s.in.Args[1]), true
}
