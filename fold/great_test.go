package fold_test

import (
	"testing"

	"lathe/api"
	"lathe/fold"
	"lathe/ir"
)

const many = 1 << 18

// P1: All ends: a very long way of what folds by what folded, from the front on and from the end on, in blocks of their own.
func TestLongWay(t *testing.T) {
	for _, step := range []int{1, -1} {
		f := api.Func{Blocks: make([]api.Block, many+1)}
		for b := range many {
			f.Blocks[b].Code = []api.Instr{{Op: api.Add, Reg: b, Type: 32, Args: []api.Value{reg(b - step), number(1)}}}
		}
		first := (1 - step) / 2 * (many - 1)
		f.Blocks[first].Code[0].Args[0] = number(0)
		f.Blocks[many].Code = []api.Instr{{Op: api.Ret, Reg: -1, Type: 32, Args: []api.Value{reg(many - 1 - first)}}}
		got := fold.All(f)
		if ir.Size(got) != 1 || len(got.Blocks) != many+1 || got.Blocks[many].Code[0].Args[0] != number(many) {
			t.Error(ir.Size(got), len(got.Blocks))
		}
	}
}

// P1: All ends: one register that is used very often, and very many that are used once, by one instruction.
func TestManyUses(t *testing.T) {
	code := []api.Instr{{Op: api.Add, Reg: 0, Type: 8, Args: []api.Value{number(1), number(2)}}}
	ret := api.Instr{Op: api.Ret, Reg: -1}
	for n := 1; n < many; n++ {
		code = append(code, api.Instr{Op: api.Mul, Reg: n, Type: 8, Args: []api.Value{reg(0), reg(0)}})
		ret.Args = append(ret.Args, reg(n))
	}
	got := fold.All(api.Func{Blocks: []api.Block{{Code: append(code, ret)}}})
	if ir.Size(got) != 1 {
		t.Fatal(ir.Size(got))
	}
	for _, v := range got.Blocks[0].Code[0].Args {
		if v != number(9) {
			t.Fatal(v)
		}
	}
}
