package ir

import (
	"lathe/api"
)

// Size: how many instructions.
func Size(f api.Func) int {
	size := 0
	each(f, func(_ api.Place, _ api.Instr) {
		size++
	})
	return size
}

// Fresh: the least register that nobody names.
func Fresh(f api.Func) int {
	named := map[int]struct{}{}
	each(f, func(_ api.Place, in api.Instr) {
		named[in.Reg] = struct{}{}
		for _, v := range in.Args {
			if v.Kind == api.Reg {
				named[v.N] = struct{}{}
			}
		}
	})
	reg := len(f.Params)
	for has(named, reg) {
		reg++
	}
	return reg
}

// Def: where a register is made.
func Def(f api.Func, reg int) (api.Place, bool) {
	place, found := api.Place{}, false
	each(f, func(at api.Place, in api.Instr) {
		if !found && in.Reg == reg && Result(in) != api.Void {
			place, found = at, true
		}
	})
	return place, found
}

// Uses: how often a register is used.
func Uses(f api.Func, reg int) int {
	uses := 0
	each(f, func(_ api.Place, in api.Instr) {
		for _, v := range in.Args {
			if isUse(v, reg) {
				uses++
			}
		}
	})
	return uses
}

// Replace: every use of a register is another operand.
func Replace(f api.Func, reg int, v api.Value) api.Func {
	f = CopyFunc(f)
	each(f, func(_ api.Place, in api.Instr) {
		for i := range in.Args {
			if isUse(in.Args[i], reg) {
				in.Args[i] = v
			}
		}
	})
	return f
}

// each shows all instructions with their places, blocks in order.
func each(f api.Func, show func(at api.Place, in api.Instr)) {
	for b, block := range f.Blocks {
		for at, in := range block.Code {
			show(api.Place{Block: b, At: at}, in)
		}
	}
}

// isUse tells whether an operand uses the register; its Bits don't matter.
func isUse(v api.Value, reg int) bool {
	return v.Kind == api.Reg && v.N == reg
}

func has(set map[int]struct{}, n int) bool {
	_, ok := set[n]
	return ok
}
