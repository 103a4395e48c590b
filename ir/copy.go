package ir

import (
	"lathe/api"
)

// Copy: the module as new memory.
func Copy(m api.Module) api.Module {
	m.Vars = copyList(m.Vars)
	m.Externs = copyEach(m.Externs, copyExtern)
	m.Funcs = copyEach(m.Funcs, CopyFunc)
	return m
}

// CopyFunc: the function as new memory.
func CopyFunc(f api.Func) api.Func {
	f.Params = copyList(f.Params)
	f.Blocks = copyEach(f.Blocks, copyBlock)
	return f
}

func copyExtern(x api.Extern) api.Extern {
	x.Params = copyList(x.Params)
	return x
}

func copyBlock(b api.Block) api.Block {
	b.Code = copyEach(b.Code, copyInstr)
	return b
}

func copyInstr(in api.Instr) api.Instr {
	in.Args = copyList(in.Args)
	in.To = copyList(in.To)
	return in
}

// copyEach copies a list whose elements have lists of their own.
func copyEach[T any](list []T, copyOne func(T) T) []T {
	list = copyList(list)
	for i := range list {
		list[i] = copyOne(list[i])
	}
	return list
}

// copyList keeps nil apart from empty, so that a copy is alike to every eye.
func copyList[T any](list []T) []T {
	if list == nil {
		return nil
	}
	fresh := make([]T, len(list))
	copy(fresh, list)
	return fresh
}
