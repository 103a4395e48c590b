package verify

import (
	"lathe/api"
	"lathe/bits"
	"lathe/ir"
)

// form holds one instruction against the row of its operation.
func (c checker) form(at api.Place, in api.Instr) {
	refuse(!c.hasForm(at, in), api.ErrForm, at)
	refuse(in.Flags&^bits.Flags(in.Op) != 0, api.ErrFlags, at)
	if in.Op == api.Call {
		c.call(at, in)
		return
	}
	refuse(!c.hasType(in), api.ErrType, at)
}

// call asks a call by what it calls.
func (c checker) call(at api.Place, in api.Instr) {
	params, ret, ok := ir.Callee(c.module, in.N)
	refuse(!ok, api.ErrName, at)
	refuse(in.Type != ret, api.ErrType, at)
	refuse(len(in.Args) != len(params), api.ErrArgs, at)
}

func (c checker) hasForm(at api.Place, in api.Instr) bool {
	if !isFrom(api.Add, api.Halt, in.Op) {
		return false
	}
	args, to := c.counts(in)
	return len(in.Args) == args && len(in.To) == to && hasNumber(in) && hasRegister(in) && hasOwnForm(at, in)
}

// counts tells how many operands and how many blocks an instruction must have.
func (c checker) counts(in api.Instr) (args, to int) {
	switch in.Op {
	case api.Zext, api.Sext, api.Trunc, api.Freeze, api.Load:
		return 1, 0
	case api.Select:
		return 3, 0
	case api.Phi:
		return len(in.To), len(in.To)
	case api.Call:
		// Too many or too few are no fault of its form.
		return len(in.Args), 0
	case api.Alloca, api.Halt:
		return 0, 0
	case api.Br:
		return 0, 1
	case api.Brif:
		return 1, 2
	case api.Ret:
		if c.f.Ret == api.Void {
			return 0, 0
		}
		return 1, 0
	}
	return 2, 0
}

// hasNumber asks N of those alone that have no use for it.
func hasNumber(in api.Instr) bool {
	switch in.Op {
	case api.Zext, api.Sext, api.Trunc, api.Alloca, api.Call:
		return true
	}
	return in.N == 0
}

// hasRegister asks only whether there is one, not which.
func hasRegister(in api.Instr) bool {
	return (in.Reg == -1) == (ir.Result(in) == api.Void)
}

// hasOwnForm asks what only some operations' forms fix.
func hasOwnForm(at api.Place, in api.Instr) bool {
	switch in.Op {
	case api.Alloca:
		return at.Block == 0 && in.Type == api.Ptr && isFrom(1, api.MaxBytes, in.N)
	case api.Gep:
		return in.Type == api.Ptr
	case api.Br, api.Brif, api.Halt:
		return in.Type == api.Void
	}
	return true
}

// hasType asks the Type of all but calls, where the form doesn't fix it.
func (c checker) hasType(in api.Instr) bool {
	switch in.Op {
	case api.Alloca, api.Gep, api.Br, api.Brif, api.Halt:
		return true
	case api.Zext, api.Sext, api.Trunc:
		_, ok := bits.Convert(in.Op, in.N, in.Type, 0)
		return ok
	case api.Eq, api.Ne, api.Select, api.Freeze, api.Phi, api.Load, api.Store:
		return isFrom(1, api.Ptr, in.Type)
	case api.Ret:
		return in.Type == c.f.Ret
	}
	return isFrom(1, 64, in.Type)
}
