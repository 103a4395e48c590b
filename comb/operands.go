package comb

import (
	"lathe/api"
	"lathe/bits"
)

// operand is what rules 3 to 12 make of the instruction.
func (s spot) operand() (api.Value, bool) {
	args := s.in.Args
	switch s.in.Op {
	case api.Zext, api.Sext:
		return api.Value{}, false
	case api.Select:
		return chosen(s.in.Type, args[0], args[1], args[2])
	case api.Freeze:
		// Rule 11; literals fold.
		return args[0], s.makerOf(args[0]).Op == api.Freeze
	case api.Trunc:
		return s.cutAgain()
	}
	if args[1].Kind == api.Const {
		if v, ok := s.byNumber(args[0], args[1].Bits); ok {
			return v, true
		}
	}
	if args[0] == args[1] {
		return s.ofTheSame(args[0])
	}
	return api.Value{}, false
}

// byNumber is what rules 3 to 6 make of x and a Const.
func (s spot) byNumber(x api.Value, n uint64) (api.Value, bool) {
	all := bits.Mask(s.in.Type)
	switch s.in.Op {
	case api.Add, api.Sub, api.Xor, api.Shl, api.Lshr, api.Ashr, api.Gep:
		return x, n == 0
	case api.Udiv, api.Sdiv:
		return x, n == 1
	case api.Urem, api.Srem:
		return number(0), n == 1
	case api.Mul:
		return either(n == 1, x, n == 0, number(0))
	case api.And:
		return either(n == all, x, n == 0, number(0))
	case api.Or:
		return either(n == 0, x, n == all, number(all))
	case api.Ult:
		return number(0), n == 0
	case api.Ule:
		return number(1), n == all
	}
	return api.Value{}, false
}

// either is v, if isV, else w, if isW.
func either(isV bool, v api.Value, isW bool, w api.Value) (api.Value, bool) {
	if isV {
		return v, true
	}
	return w, isW
}

// ofTheSame is what rules 7 to 9 make of x, x.
func (s spot) ofTheSame(x api.Value) (api.Value, bool) {
	switch s.in.Op {
	case api.Sub, api.Xor, api.Ne, api.Ult, api.Slt:
		return number(0), true
	case api.And, api.Or:
		return x, true
	case api.Eq, api.Ule, api.Sle:
		return number(1), true
	}
	return api.Value{}, false
}

// chosen is what rule 10 makes of a Select of type t.
func chosen(t int, asked, one, zero api.Value) (api.Value, bool) {
	switch {
	case asked == number(1):
		return one, true
	case asked == number(0):
		return zero, true
	case one == zero:
		return one, true
	case t == 1 && one == number(1) && zero == number(0):
		return asked, true
	}
	return api.Value{}, false
}

// cutAgain is what rule 12 makes of a Trunc that takes away just what was laid on.
func (s spot) cutAgain() (api.Value, bool) {
	maker := s.makerOf(s.in.Args[0])
	isLonger := maker.Op == api.Zext || maker.Op == api.Sext
	if !isLonger || maker.N != s.in.Type {
		return api.Value{}, false
	}
	return maker.Args[0], true
}
