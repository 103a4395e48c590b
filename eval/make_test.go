package eval_test

import (
	"math"
	"math/rand"

	"lathe/api"
)

// maker makes arguments; seeded, the same ones in every run.
type maker struct{ *rand.Rand }

func seeded(n int64) maker {
	return maker{rand.New(rand.NewSource(n))}
}

func oneOf[T any](r maker, all ...T) T {
	return all[r.Intn(len(all))]
}

var conversions = []int{api.Zext, api.Sext, api.Trunc}

// valuesOf are those of a type: all numbers, if they are few, else those at the edges; addresses; poison and any.
func valuesOf(t int) []api.Val {
	all := []api.Val{poison, some}
	if t == api.Ptr {
		for _, block := range []int{-1, 0, 2, math.MaxInt} {
			for _, off := range []int64{0, 4, -1, math.MinInt64, math.MaxInt64} {
				all = append(all, addr(block, off))
			}
		}
		return all
	}
	top := uint64(math.MaxUint64) >> uint(64-t)
	if t <= 4 {
		for n := uint64(0); n <= top; n++ {
			all = append(all, number(n))
		}
		return all
	}
	half := uint64(1) << uint(t-1)
	for _, n := range []uint64{0, 1, 2, 3, 5, uint64(t) - 1, uint64(t), uint64(t) + 1, half - 1, half, half + 1, top - 1, top} {
		all = append(all, number(n&top))
	}
	return all
}

// strays are values that must be read first: of another type, with more bits, with fields that don't matter, of no kind.
func strays() []api.Val {
	var all []api.Val
	for _, kind := range []int{api.IsPoison, api.IsInt, api.IsAddr, api.IsAny, -1, 4, 257, 1 << 32, math.MinInt, math.MaxInt} {
		all = append(all,
			api.Val{Kind: kind},
			api.Val{Kind: kind, Bits: 1},
			api.Val{Kind: kind, Bits: 2, Block: 3, Off: -7},
			api.Val{Kind: kind, Bits: math.MaxUint64, Block: -1},
			api.Val{Kind: kind, Bits: 1<<63 + 1<<32 + 3, Off: math.MaxInt64},
			api.Val{Kind: kind, Block: math.MinInt, Off: math.MinInt64},
		)
	}
	return all
}

// rowsOf goes over all rows of values, one of each list; do must not keep them.
func rowsOf(do func(args []api.Val), lists ...[]api.Val) {
	args := make([]api.Val, len(lists))
	var from func(i int)
	from = func(i int) {
		if i == len(lists) {
			do(args)
			return
		}
		for _, v := range lists[i] {
			args[i] = v
			from(i + 1)
		}
	}
	from(0)
}

// flagsOf are all sets of flags that an operation may have.
func flagsOf(op int) []int {
	var all []int
	for flags := range 8 {
		if flags|kindOf(op).flags == kindOf(op).flags {
			all = append(all, flags)
		}
	}
	return all
}

// instrs are all such instructions of these types.
func instrs(types ...int) []api.Instr {
	var all []api.Instr
	add := func(in api.Instr) {
		for _, flags := range flagsOf(in.Op) {
			in.Flags = flags
			if isSuch(in, len(kindOf(in.Op).wants)) {
				all = append(all, in)
			}
		}
	}
	for _, t := range types {
		for op := range 40 {
			add(api.Instr{Op: op, Type: t})
		}
		for _, op := range conversions {
			for _, n := range types {
				add(api.Instr{Op: op, Type: t, N: n})
			}
		}
	}
	return all
}

func (r maker) number() int {
	return oneOf(r, math.MinInt, -1<<32, -1, 0, 1, 2, 7, 8, 16, 63, 64, 65, 66, 1<<32+8, 256+8, math.MaxInt, r.Intn(70), r.Intn(40))
}

func (r maker) val() api.Val {
	if r.Intn(2) == 0 {
		return oneOf(r, strays()...)
	}
	return oneOf(r, valuesOf(oneOf(r, 1, 1, 8, 64, api.Ptr, api.Ptr))...)
}

// instr is of any data, or nearly one that Eval knows.
func (r maker) instr() api.Instr {
	in := api.Instr{Op: r.Intn(36), Type: r.Intn(66), N: r.Intn(66), Reg: r.number()}
	switch r.Intn(4) {
	case 0:
		in.Op, in.Flags = r.number(), oneOf(r, r.number(), 1, 2, 3, 4, 5, 8)
		in.Type = r.number()
	case 1:
		in.Flags = r.Intn(9)
	case 2:
		in.N = r.number()
	}
	for range r.Intn(3) {
		in.Args = append(in.Args, api.Value{Kind: r.Intn(6), N: r.number(), Bits: r.Uint64()})
		in.To = append(in.To, r.number())
	}
	return in
}

// args are mostly as many as the operation wants.
func (r maker) args(in api.Instr) []api.Val {
	n := len(kindOf(in.Op).wants)
	if r.Intn(6) == 0 {
		n = r.Intn(6)
	}
	var list []api.Val
	for range n {
		list = append(list, r.val())
	}
	return list
}
