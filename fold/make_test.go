package fold_test

import (
	"math"

	"lathe/api"
	"lathe/samples"
)

func number(n uint64) api.Value { return api.Value{Kind: api.Const, Bits: n} }
func global(n int) api.Value    { return api.Value{Kind: api.Global, N: n} }
func reg(n int) api.Value       { return api.Value{Kind: api.Reg, N: n} }

var (
	poison = api.Value{Kind: api.Poison}
	null   = api.Value{Kind: api.Null}
)

// operands are literals of all kinds, some of them with fields that their kind has not, and others that are none.
func operands() []api.Value {
	return []api.Value{
		number(0), number(1), number(2), number(7), number(8), number(127), number(128), number(255), number(256 + 3), number(1 << 63), number(math.MaxUint64), {Kind: api.Const, N: 3, Bits: 4},
		poison, {Kind: api.Poison, N: 1, Bits: 2}, null, {Kind: api.Null, N: 3, Bits: 4},
		global(0), global(1), global(-1), global(-2), global(math.MaxInt), global(math.MinInt), {Kind: api.Global, N: 2, Bits: 9},
		reg(0), reg(-1), {}, {Kind: 6, Bits: 1}, {Kind: -1},
	}
}

// rows shows all rows of so many operands; show must not keep them.
func rows(all []api.Value, count int, show func(args []api.Value)) {
	args := make([]api.Value, count)
	var from func(i int)
	from = func(i int) {
		if i == count {
			show(args)
			return
		}
		for _, v := range all {
			args[i] = v
			from(i + 1)
		}
	}
	from(0)
}

// countOf is how many operands an operation wants.
func countOf(op int) int {
	switch op {
	case api.Zext, api.Sext, api.Trunc, api.Freeze, api.Load, api.Brif:
		return 1
	case api.Select:
		return 3
	case api.Alloca, api.Br, api.Halt:
		return 0
	}
	return 2
}

// instr is mostly a calm one of literals, as Eval knows it, else of any data.
func instr(r *samples.Maker) api.Instr {
	if r.In(15) {
		return r.Instr()
	}
	in := api.Instr{Op: 1 + r.Below(api.Gep), Reg: r.Below(9), Type: samples.OneOf(r, 1, 2, 8, 8, 33, 64, api.Ptr, r.Below(67))}
	switch {
	case in.Op == api.Gep:
		in.Type = api.Ptr
	case in.Op == api.Zext || in.Op == api.Sext:
		in.N = r.Below(in.Type + 1)
	case in.Op == api.Trunc:
		in.N = in.Type + r.Below(8)
	case r.In(20):
		in.Flags = r.Below(8)
	}
	for range countOf(in.Op) {
		in.Args = append(in.Args, samples.OneOf(r, operands()[r.Below(22)], number(r.Bits()), number(uint64(r.Below(9))), r.Value()))
	}
	if r.In(5) {
		in.Args = append(in.Args, number(1))
	}
	return in
}

// numbers is a right function of no arguments and of one block, of calm instructions of numbers, that answers what the last one makes.
func numbers(r *samples.Maker, most int) api.Func {
	f := api.Func{Name: "f"}
	made := map[int][]int{}
	var code []api.Instr
	for n := range 1 + r.Below(most) {
		in := api.Instr{Op: samples.OneOf(r, api.Add, api.Sub, api.Mul, api.And, api.Or, api.Xor, api.Shl, api.Lshr, api.Ashr, api.Eq+r.Below(6), api.Select, api.Freeze, api.Freeze), Reg: n, Type: samples.OneOf(r, 1, 8, 8, 64)}
		for k := range countOf(in.Op) {
			t := in.Type
			if in.Op == api.Select && k == 0 {
				t = 1
			}
			in.Args = append(in.Args, ofType(r, t, made[t]))
		}
		f.Ret = in.Type
		if in.Op >= api.Eq && in.Op <= api.Sle {
			f.Ret = 1
		}
		made[f.Ret] = append(made[f.Ret], n)
		code = append(code, in)
	}
	code = append(code, api.Instr{Op: api.Ret, Reg: -1, Type: f.Ret, Args: []api.Value{reg(len(code) - 1)}})
	f.Blocks = []api.Block{{Code: code}}
	return f
}

func ofType(r *samples.Maker, t int, made []int) api.Value {
	most := uint64(math.MaxUint64) >> (64 - t)
	switch {
	case len(made) > 0 && r.In(75):
		return reg(samples.OneOf(r, made[len(made)-1], samples.OneOf(r, made...)))
	case r.In(12):
		return poison
	}
	return number(samples.OneOf(r, r.Bits(), uint64(r.Below(9)), most) & most)
}
