package spell

import (
	"slices"

	"lathe/api"
	"lathe/ir"
	"lathe/lex"
	"lathe/words"
)

// each tells whether all of a list are as they should be.
func each[T any](list []T, good func(one T) bool) bool {
	return !slices.ContainsFunc(list, func(one T) bool { return !good(one) })
}

func isType(t int) bool {
	return t >= api.Void && t <= api.Ptr
}

func isVar(v api.Var) bool {
	return lex.Word(v.Name) && v.Size >= 0
}

func isExtern(x api.Extern) bool {
	return isHead(x.Name, x.Params, x.Ret)
}

// isHead asks what externs and functions have alike.
func isHead(name string, params []int, ret int) bool {
	return lex.Word(name) && each(params, isType) && isType(ret)
}

// isInstr holds an instruction against the row of its operation; a field that the row doesn't have must be as parse leaves it.
func isInstr(m api.Module, in api.Instr) bool {
	return words.Of(in.Op) != "" && hasLists(in) && hasType(m, in) && hasNumber(in) && hasFlags(in) && hasRegister(in) &&
		each(in.To, isTarget) && each(in.Args, func(v api.Value) bool { return isOperand(m, v) })
}

// hasLists asks how many operands and how many blocks there are.
func hasLists(in api.Instr) bool {
	args, to := len(in.Args), len(in.To)
	switch in.Op {
	case api.Phi:
		return to == args
	case api.Call:
		return to == 0
	case api.Ret:
		return to == 0 && args <= 1
	case api.Br:
		return to == 1 && args == 0
	case api.Brif:
		return to == 2 && args == 1
	case api.Alloca, api.Halt:
		return to == 0 && args == 0
	case api.Zext, api.Sext, api.Trunc, api.Freeze, api.Load:
		return to == 0 && args == 1
	case api.Select:
		return to == 0 && args == 3
	}
	return to == 0 && args == 2
}

func hasType(m api.Module, in api.Instr) bool {
	switch in.Op {
	case api.Alloca, api.Gep:
		return in.Type == api.Ptr
	case api.Call:
		_, ret, ok := ir.Callee(m, in.N)
		return ok && in.Type == ret
	case api.Br, api.Brif, api.Halt:
		return in.Type == api.Void
	case api.Ret:
		// A ret without an operand has no word for a type either.
		return isType(in.Type) && (len(in.Args) == 1 || in.Type == api.Void)
	}
	return isType(in.Type)
}

// hasNumber asks the N of all but calls, whose N is asked with their type.
func hasNumber(in api.Instr) bool {
	switch in.Op {
	case api.Zext, api.Sext, api.Trunc:
		return isType(in.N)
	case api.Alloca:
		return in.N >= 0
	case api.Call:
		return true
	}
	return in.N == 0
}

// hasFlags doesn't ask which flags the operation may have: the grammar has each of them in all rows that have any.
func hasFlags(in api.Instr) bool {
	if in.Op > api.Ashr {
		return in.Flags == 0
	}
	return in.Flags >= 0 && in.Flags <= api.Nsw|api.Nuw|api.Exact
}

func hasRegister(in api.Instr) bool {
	switch {
	case in.Reg == -1:
		return !ir.Idle(in.Op)
	case isRegister(in.Reg):
		return in.Op == api.Call || ir.Idle(in.Op)
	}
	return false
}

func isRegister(n int) bool {
	return n >= 0 && n <= api.MaxReg
}

// isTarget: a block's word has three digits at most.
func isTarget(to int) bool {
	return to >= 0 && to <= 999
}

func isOperand(m api.Module, v api.Value) bool {
	switch v.Kind {
	case api.Reg:
		return isRegister(v.N) && v.Bits == 0
	case api.Const:
		return v.N == 0
	case api.Poison, api.Null:
		return v.N == 0 && v.Bits == 0
	case api.Global:
		return v.N >= 0 && v.N < len(m.Vars) && v.Bits == 0
	}
	return false
}
