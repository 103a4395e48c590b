package uses_test

import (
	"slices"

	"lathe/api"
	"lathe/ir"
)

// The chapter's words once more, as they are told: from none on, till nothing more is needed.
func neededByWords(f api.Func) [][]bool {
	needed := make([][]bool, len(f.Blocks))
	for b, block := range f.Blocks {
		needed[b] = make([]bool, len(block.Code))
	}
	for changed := true; changed; {
		changed = false
		for b, block := range f.Blocks {
			for i, in := range block.Code {
				makes := ir.Result(in) != 0
				if !needed[b][i] && (!ir.Idle(in.Op) || makes && isUsed(f, needed, in.Reg)) {
					needed[b][i], changed = true, true
				}
			}
		}
	}
	return needed
}

// isUsed tells whether an operand of a needed instruction is the register.
func isUsed(f api.Func, needed [][]bool, reg int) bool {
	for b, block := range f.Blocks {
		for i, in := range block.Code {
			if needed[b][i] && slices.ContainsFunc(in.Args, func(v api.Value) bool { return v.Kind == 1 && v.N == reg }) {
				return true
			}
		}
	}
	return false
}

func cleanByWords(f api.Func) api.Func {
	blocks := make([]api.Block, len(f.Blocks))
	for b, needed := range neededByWords(f) {
		for i, is := range needed {
			if is {
				blocks[b].Code = append(blocks[b].Code, f.Blocks[b].Code[i])
			}
		}
	}
	f.Blocks = blocks
	return f
}
