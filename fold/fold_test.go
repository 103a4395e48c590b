package fold_test

import (
	"math"
	"slices"
	"testing"

	"lathe/api"
	"lathe/fold"
)

func of(op, typ int, args ...api.Value) api.Instr {
	return api.Instr{Op: op, Reg: 9, Type: typ, Args: args}
}

// flagged is an instruction with flags; from, one with the type that a conversion begins with.
func flagged(in api.Instr, flags int) api.Instr {
	in.Flags = flags
	return in
}

func from(in api.Instr, n int) api.Instr {
	in.N = n
	return in
}

func checkFolds(t *testing.T, in api.Instr, want api.Value) {
	t.Helper()
	if got, ok := fold.Fold(in); got != want || !ok {
		t.Errorf("Fold of %v: %v, %v, not %v", in, got, ok, want)
	}
}

func checkStays(t *testing.T, all ...api.Instr) {
	t.Helper()
	for _, in := range all {
		if got, ok := fold.Fold(in); got != (api.Value{}) || ok {
			t.Errorf("Fold of %v: %v, %v", in, got, ok)
		}
	}
}

// The chapter's examples.
func TestExamples(t *testing.T) {
	g, h := global(0), global(1)
	checkFolds(t, of(api.Add, 8, number(200), number(100)), number(44))
	checkFolds(t, flagged(of(api.Add, 8, number(200), number(100)), api.Nuw), poison)
	checkStays(t, of(api.Udiv, 8, number(1), number(0)))
	checkFolds(t, of(api.Freeze, 8, poison), number(0))
	checkStays(t, of(api.Select, 8, number(1), reg(3), number(5)))
	checkFolds(t, of(api.Gep, api.Ptr, g, number(0)), g)
	checkStays(t, of(api.Gep, api.Ptr, g, number(1)))
	checkFolds(t, of(api.Gep, api.Ptr, null, number(0)), null)
	checkFolds(t, of(api.Eq, api.Ptr, g, h), number(0))
	phi := of(api.Phi, 8, number(3))
	phi.To = []int{0}
	checkStays(t, phi)
}

// P15.1: each calm operation of numbers.
func TestNumbers(t *testing.T) {
	for op, want := range map[int]uint64{
		api.Add: 103, api.Sub: 97, api.Mul: 44, api.And: 0, api.Or: 103, api.Xor: 103, api.Shl: 32, api.Lshr: 12, api.Ashr: 12,
		api.Eq: 0, api.Ne: 1, api.Ult: 0, api.Ule: 0, api.Slt: 0, api.Sle: 0,
	} {
		checkFolds(t, of(op, 8, number(100), number(3)), number(want))
	}
	checkFolds(t, of(api.Slt, 8, number(128), number(127)), number(1))
	checkFolds(t, of(api.Sle, 64, number(1<<63), number(1<<63)), number(1))
	checkFolds(t, of(api.Add, 64, number(math.MaxUint64), number(2)), number(1))
	checkFolds(t, from(of(api.Zext, 16, number(128)), 8), number(128))
	checkFolds(t, from(of(api.Sext, 16, number(128)), 8), number(65408))
	checkFolds(t, from(of(api.Trunc, 1, number(255)), 8), number(1))
	checkFolds(t, of(api.Select, 8, number(1), number(5), number(6)), number(5))
	checkFolds(t, of(api.Select, 8, number(0), number(5), number(6)), number(6))
	checkFolds(t, of(api.Freeze, 8, number(5)), number(5))
}

// P15.1: poison, and what comes of it; what is frozen is 0, or null.
func TestPoison(t *testing.T) {
	checkFolds(t, of(api.Add, 8, poison, number(1)), poison)
	checkFolds(t, of(api.Eq, 8, number(1), poison), poison)
	checkFolds(t, of(api.Shl, 8, number(1), number(8)), poison)
	checkFolds(t, flagged(of(api.Lshr, 8, number(3), number(1)), api.Exact), poison)
	checkFolds(t, flagged(of(api.Add, 8, number(127), number(1)), api.Nsw|api.Nuw), poison)
	checkFolds(t, from(of(api.Zext, 16, poison), 8), poison)
	checkFolds(t, of(api.Select, 8, poison, number(1), number(1)), poison)
	checkFolds(t, of(api.Select, 8, number(1), number(5), poison), number(5))
	checkFolds(t, of(api.Select, 8, number(0), number(5), poison), poison)
	checkFolds(t, of(api.Gep, api.Ptr, poison, number(0)), poison)
	checkFolds(t, of(api.Gep, api.Ptr, global(0), poison), poison)
	checkFolds(t, of(api.Ne, api.Ptr, null, poison), poison)
	for _, width := range []int{1, 2, 8, 63, 64} {
		checkFolds(t, of(api.Freeze, width, poison), number(0))
	}
	checkFolds(t, of(api.Freeze, api.Ptr, poison), null)
}

// P15.1: addresses; only null and the beginning of a global are operands.
func TestAddresses(t *testing.T) {
	g, h := global(0), global(7)
	checkFolds(t, of(api.Freeze, api.Ptr, h), h)
	checkFolds(t, of(api.Freeze, api.Ptr, null), null)
	checkFolds(t, of(api.Select, api.Ptr, number(0), g, h), h)
	checkFolds(t, of(api.Select, api.Ptr, number(1), null, h), null)
	checkFolds(t, of(api.Gep, api.Ptr, h, number(0)), h)
	checkStays(t, of(api.Gep, api.Ptr, null, number(1)), of(api.Gep, api.Ptr, h, number(math.MaxUint64)), of(api.Gep, api.Ptr, g, number(1<<63)))
	checkFolds(t, of(api.Eq, api.Ptr, null, null), number(1))
	checkFolds(t, of(api.Eq, api.Ptr, h, h), number(1))
	checkFolds(t, of(api.Eq, api.Ptr, g, null), number(0))
	checkFolds(t, of(api.Ne, api.Ptr, g, h), number(1))
	checkFolds(t, of(api.Ne, api.Ptr, h, h), number(0))
}

// P15.1: what isn't calm doesn't fold, be it known what comes of it; and what is no operation doesn't.
func TestNotCalm(t *testing.T) {
	two := []api.Value{number(6), number(3)}
	for _, op := range []int{api.Udiv, api.Sdiv, api.Urem, api.Srem} {
		checkStays(t, of(op, 8, two...), of(op, 8, number(1), number(0)), of(op, 8, poison, number(1)), flagged(of(op, 8, two...), api.Exact))
	}
	for _, op := range []int{api.Phi, api.Alloca, api.Load, api.Store, api.Call, api.Br, api.Brif, api.Ret, api.Halt, 0, -1, 35, 99, math.MinInt, math.MaxInt} {
		checkStays(t, of(op, 8), of(op, 8, number(1)), of(op, 8, two...), of(op, api.Ptr, null), of(op, api.Ptr, global(0), number(0)), of(op, 0))
	}
}

// P15.1: a register, or what is no operand at all, in any place, needed or not.
func TestNoLiteral(t *testing.T) {
	for _, v := range []api.Value{reg(0), reg(-1), reg(api.MaxReg), {}, {Kind: 6}, {Kind: -1, Bits: 1}} {
		checkStays(t,
			of(api.And, 8, number(0), v), of(api.And, 8, v, number(0)), of(api.Sub, 8, v, v),
			of(api.Add, 8, poison, v), of(api.Select, 8, poison, v, v), of(api.Select, 8, number(0), v, number(5)), of(api.Select, 8, v, number(5), number(5)),
			of(api.Freeze, 8, v), from(of(api.Zext, 8, v), 1), of(api.Gep, api.Ptr, v, number(0)), of(api.Gep, api.Ptr, null, v), of(api.Eq, api.Ptr, v, v))
	}
}

// P15.1: wrong forms: Eval knows no such instruction.
func TestWrongForms(t *testing.T) {
	one, two := []api.Value{number(1)}, []api.Value{number(1), number(2)}
	three := []api.Value{number(1), number(2), number(3)}
	checkStays(t, of(api.Add, 8), of(api.Add, 8, one...), of(api.Add, 8, three...), of(api.Freeze, 8), of(api.Freeze, 8, two...), of(api.Select, 8, two...), of(api.Gep, api.Ptr, null))
	for _, width := range []int{0, -1, api.Ptr, 66, math.MaxInt, math.MinInt} {
		checkStays(t, of(api.Add, width, two...), of(api.Ult, width, two...))
		if width != api.Ptr {
			checkStays(t, of(api.Eq, width, two...), of(api.Freeze, width, poison), of(api.Select, width, three...), of(api.Gep, width, null, number(0)))
		}
	}
	checkStays(t, of(api.Gep, 8, null, number(0)), of(api.Gep, 0, null, number(0)))
	checkStays(t, flagged(of(api.Add, 8, two...), api.Exact), flagged(of(api.Lshr, 8, two...), api.Nsw), flagged(of(api.And, 8, two...), 1), flagged(of(api.Add, 8, two...), 8), flagged(of(api.Freeze, 8, one...), -1))
	checkStays(t, from(of(api.Zext, 8, one...), 8), from(of(api.Sext, 8, one...), 0), from(of(api.Trunc, 8, one...), 8), from(of(api.Trunc, 8, one...), 65), from(of(api.Zext, api.Ptr, one...), 8))
}

// P15.1: every instruction: values are read by the type that is wanted of them, and fields that nobody asks for don't matter.
func TestAnyData(t *testing.T) {
	checkFolds(t, of(api.Add, 8, number(300), number(1)), number(45))
	checkFolds(t, of(api.Freeze, 8, number(511)), number(255))
	checkFolds(t, of(api.Select, 8, number(2), number(5), number(6)), number(6))
	checkFolds(t, of(api.Add, 8, global(0), number(1)), poison)
	checkFolds(t, of(api.Freeze, 8, null), number(0))
	checkFolds(t, of(api.Freeze, api.Ptr, number(5)), null)
	checkFolds(t, of(api.Eq, api.Ptr, number(5), null), poison)
	checkFolds(t, of(api.Freeze, api.Ptr, global(-1)), null)
	checkStays(t, of(api.Freeze, api.Ptr, global(-2)), of(api.Gep, api.Ptr, global(math.MinInt), number(0)))
	checkFolds(t, of(api.Freeze, api.Ptr, global(math.MaxInt)), global(math.MaxInt))
	checkFolds(t, of(api.Freeze, api.Ptr, api.Value{Kind: api.Global, N: 3, Bits: 5}), global(3))
	checkFolds(t, of(api.Freeze, api.Ptr, api.Value{Kind: api.Null, N: 3, Bits: 5}), null)
	checkFolds(t, of(api.Freeze, 8, api.Value{Kind: api.Const, N: 3, Bits: 5}), number(5))
	checkFolds(t, of(api.Add, 8, api.Value{Kind: api.Poison, N: 3, Bits: 5}, number(1)), poison)
	odd := of(api.Add, 8, number(1), number(2))
	odd.Reg, odd.N, odd.To = -7, 99, []int{1, 2}
	checkFolds(t, odd, number(3))
}

// P15.1: what is handed in stays, spare room too.
func TestArgsStay(t *testing.T) {
	room := []api.Value{number(300), number(1), number(7), poison}
	before := slices.Clone(room)
	checkFolds(t, of(api.Add, 8, room[:2]...), number(45))
	if !slices.Equal(room, before) {
		t.Error(room)
	}
}
