package ir

import (
	"slices"

	"lathe/api"
)

// Same: are two modules alike?
func Same(a, b api.Module) bool {
	return slices.Equal(a.Vars, b.Vars) &&
		slices.EqualFunc(a.Externs, b.Externs, sameExtern) &&
		slices.EqualFunc(a.Funcs, b.Funcs, SameFunc)
}

// SameFunc: are two functions alike?
func SameFunc(a, b api.Func) bool {
	return a.Name == b.Name && a.Ret == b.Ret &&
		slices.Equal(a.Params, b.Params) &&
		slices.EqualFunc(a.Blocks, b.Blocks, sameBlock)
}

func sameExtern(a, b api.Extern) bool {
	return a.Name == b.Name && a.Ret == b.Ret && slices.Equal(a.Params, b.Params)
}

func sameBlock(a, b api.Block) bool {
	return slices.EqualFunc(a.Code, b.Code, sameInstr)
}

func sameInstr(a, b api.Instr) bool {
	return a.Op == b.Op && a.Reg == b.Reg && a.Type == b.Type && a.N == b.N && a.Flags == b.Flags &&
		slices.Equal(a.Args, b.Args) && slices.Equal(a.To, b.To)
}
