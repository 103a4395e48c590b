package comb

import (
	"slices"

	"lathe/api"
	"lathe/fold"
	"lathe/ir"
)

// spot is an instruction of a reachable block, and how to ask what makes a register: the zero Instr, if nothing does.
type spot struct {
	in    api.Instr
	maker func(reg int) api.Instr
}

// rule: the first rule that applies; those that make operands lie between rule 2 and rule 13.
func (s spot) rule() (api.Instr, int) {
	if !isRuled(s.in) {
		return api.Instr{}, stays
	}
	if v, ok := fold.Fold(s.in); ok {
		return operand(v), isOperand
	}
	if in, ok := s.swapped(); ok {
		return in, turns
	}
	if v, ok := s.operand(); ok {
		return operand(v), isOperand
	}
	if in, ok := s.turned(); ok {
		return in, turns
	}
	return api.Instr{}, stays
}

// isRuled tells whether rules may apply at all. Operands are counted, since in a function that isn't right there may be others.
func isRuled(in api.Instr) bool {
	isDivision := in.Op >= api.Udiv && in.Op <= api.Srem
	return (ir.Calm(in.Op) || isDivision) && len(in.Args) == count(in.Op)
}

// count is how many operands an instruction has that may be ruled.
func count(op int) int {
	switch op {
	case api.Zext, api.Sext, api.Trunc, api.Freeze:
		return 1
	case api.Select:
		return 3
	}
	return 2
}

func operand(v api.Value) api.Instr {
	return api.Instr{Args: []api.Value{v}}
}

func number(n uint64) api.Value {
	return api.Value{Kind: api.Const, Bits: n}
}

// with is the instruction with another Op and other operands; all its lists are new memory.
func (s spot) with(op int, args ...api.Value) api.Instr {
	in := s.in
	in.Op, in.Args, in.To = op, args, slices.Clone(in.To)
	return in
}

// makerOf is what makes an operand; the zero Instr, which no rule names, if nothing does.
func (s spot) makerOf(v api.Value) api.Instr {
	if v.Kind != api.Reg {
		return api.Instr{}
	}
	in := s.maker(v.N)
	if len(in.Args) != count(in.Op) {
		return api.Instr{}
	}
	return in
}
