package comb_test

import (
	"testing"

	"lathe/api"
	"lathe/bits"
	"lathe/comb"
	"lathe/ir"
)

const many = 1 << 16

// chain is a right function, if it isn't too great, of so many blocks behind block 0, each with so many instructions of which each uses what is made ahead of it; the blocks stand as they follow each other, or the other way round.
func chain(op, blocks, code int, isBackward bool) api.Func {
	f := api.Func{Name: "f", Params: []int{32}, Ret: 32, Blocks: make([]api.Block, blocks+1)}
	last, block := 0, 0
	next := func(b int) int {
		if isBackward {
			return blocks - b
		}
		return b + 1
	}
	for b := range blocks {
		f.Blocks[block].Code = append(f.Blocks[block].Code, api.Instr{Op: api.Br, Reg: -1, To: []int{next(b)}})
		block = next(b)
		for range code {
			f.Blocks[block].Code = append(f.Blocks[block].Code, api.Instr{Op: op, Reg: last + 1, Type: 32, Args: []api.Value{reg(last), number(uint64(3 + last%4*2))}})
			last++
		}
	}
	f.Blocks[block].Code = append(f.Blocks[block].Code, api.Instr{Op: api.Ret, Reg: -1, Type: 32, Args: []api.Value{reg(last)}})
	return f
}

// joined is a chain when all has come to %0.
func joined(f api.Func) api.Func {
	f = ir.CopyFunc(f)
	sums, last := map[int]uint64{}, 0
	for b := 0; ; {
		block := f.Blocks[b].Code
		for _, in := range block[:len(block)-1] {
			sum := in.Args[1].Bits
			if before, ok := sums[last]; ok {
				sum, _ = bits.Apply(in.Op, in.Type, 0, before, sum)
			}
			last, sums[in.Reg] = in.Reg, sum
			in.Args[0], in.Args[1] = reg(0), number(sum)
		}
		end := block[len(block)-1]
		if end.Op == api.Ret {
			return f
		}
		b = end.To[0]
	}
}

// P1: All ends: a very long way of what is made of one another, from the front on and from the end on.
func TestLongWay(t *testing.T) {
	f := chain(api.Add, many, 1, false)
	if !ir.SameFunc(comb.All(f), joined(f)) {
		t.Error("not as it should be")
	}
	for _, isBackward := range []bool{false, true} {
		f = chain(api.Or, many, 1, isBackward)
		for _, block := range f.Blocks {
			for _, in := range block.Code {
				if in.Op == api.Or {
					in.Args[1] = number(0)
				}
			}
		}
		if got := comb.All(f); ir.Size(got) != many+1 {
			t.Error(ir.Size(got))
		}
	}
}

// P1: All ends: one register that is used very often.
func TestManyUses(t *testing.T) {
	code := []api.Instr{{Op: api.Add, Reg: 1, Type: 8, Args: []api.Value{reg(0), number(0)}}}
	for n := 2; n < many; n++ {
		code = append(code, api.Instr{Op: api.Sub, Reg: n, Type: 8, Args: []api.Value{reg(1), reg(1)}})
	}
	code = append(code, api.Instr{Op: api.Ret, Reg: -1, Type: 8, Args: []api.Value{reg(many - 1)}})
	got := comb.All(api.Func{Params: []int{8}, Ret: 8, Blocks: []api.Block{{Code: code}}})
	if ir.Size(got) != 1 || got.Blocks[0].Code[0].Args[0] != number(0) {
		t.Error(ir.Size(got))
	}
}

// P1: All ends of functions that aren't right, too: of what comes of itself, in rounds of one, of two and of very many instructions, in a block that is reachable.
func TestRounds(t *testing.T) {
	row := func(op, t, n int, args ...api.Value) api.Instr {
		return api.Instr{Op: op, Reg: n, Type: t, N: t, Args: args}
	}
	for _, round := range []int{1, 2, 3, 300} {
		for op := api.Add; op <= api.Gep; op++ {
			var code []api.Instr
			for n := range round {
				next := reg((n + 1) % round)
				code = append(code,
					row(op, 8, n, next, number(6)), row(op, 1, n+many, next, number(1)),
					row(op, 8, n+2*many, next, number(5), number(6)), row(op, 8, n+3*many, next))
			}
			code = append(code, api.Instr{Op: api.Halt, Reg: -1})
			f := api.Func{Blocks: []api.Block{{Code: code}}}
			if got := comb.All(f); ir.Size(got) > ir.Size(f) || len(got.Blocks) != 1 {
				t.Error(round, op, got)
			}
			for at := range min(len(code), 12) {
				if _, how := comb.Rule(f, api.Place{At: at}); how < 0 || how > 2 {
					t.Error(round, op, at, how)
				}
			}
		}
	}
}
