package uses_test

import (
	"testing"

	"lathe/api"
	"lathe/ir"
	"lathe/uses"
)

const many = 1 << 18

// P14.1: every function: a very long way of uses, each in a block of its own, told from the end on and from the front on.
func TestLongWay(t *testing.T) {
	for _, step := range []int{1, -1} {
		f := api.Func{Blocks: make([]api.Block, many)}
		for b := range f.Blocks {
			f.Blocks[b].Code = []api.Instr{makes(api.Add, b, reg(b+step)), makes(api.Add, b+2*many, reg(b))}
		}
		f.Blocks = append(f.Blocks, api.Block{Code: []api.Instr{makes(api.Ret, -1, reg((1-step)/2*(many-1)))}})
		if got := uses.Clean(f); ir.Size(got) != many+1 {
			t.Error(ir.Size(got))
		}
	}
}

// P14.1: every function: one register that is made very often, and used as often by each that makes it.
func TestOneRegister(t *testing.T) {
	var f api.Func
	var code []api.Instr
	for range many {
		code = append(code, makes(api.Add, 3, reg(3), reg(3)))
	}
	f.Blocks = []api.Block{{Code: code}}
	if got := uses.Clean(f); ir.Size(got) != 0 {
		t.Error("nobody needs them, but", ir.Size(got))
	}
	f.Blocks = append(f.Blocks, api.Block{Code: []api.Instr{makes(api.Ret, -1, reg(3))}})
	if got := uses.Clean(f); ir.Size(got) != many+1 {
		t.Error("all are needed, and", ir.Size(got))
	}
}
