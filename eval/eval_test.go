package eval_test

import (
	"math"
	"testing"

	"lathe/api"
	"lathe/eval"
)

func number(bits uint64) api.Val { return api.Val{Kind: api.IsInt, Bits: bits} }

func addr(block int, off int64) api.Val {
	return api.Val{Kind: api.IsAddr, Block: block, Off: off}
}

var null = addr(-1, 0)

// of is an instruction of one type, without flags.
func of(op, typ int) api.Instr {
	return api.Instr{Op: op, Type: typ}
}

func flagged(op, typ, flags int) api.Instr {
	return api.Instr{Op: op, Type: typ, Flags: flags}
}

func convert(op, from, to int) api.Instr {
	return api.Instr{Op: op, N: from, Type: to}
}

func check(t *testing.T, in api.Instr, want api.Val, wantEnd int, args ...api.Val) {
	t.Helper()
	if got, end := eval.Eval(in, args); got != want || end != wantEnd {
		t.Errorf("%v of %v: %v, %d, not %v, %d", in, args, got, end, want, wantEnd)
	}
}

func checkNone(t *testing.T, in api.Instr, args ...api.Val) {
	t.Helper()
	check(t, in, poison, noSuch, args...)
}

// The chapter's examples.
func TestExamples(t *testing.T) {
	check(t, of(api.Add, 8), number(44), ends, number(200), number(100))
	check(t, flagged(api.Add, 8, api.Nuw), poison, ends, number(200), number(100))
	check(t, of(api.Udiv, 8), poison, undefined, poison, number(0))
	check(t, of(api.Udiv, 8), poison, ends, poison, number(3))
	check(t, of(api.Udiv, 8), poison, undefined, number(3), poison)
	check(t, of(api.Select, 8), number(5), ends, number(1), number(5), poison)
	check(t, of(api.Freeze, 8), some, ends, poison)
	check(t, of(api.Freeze, 8), number(5), ends, number(5))
	check(t, of(api.Add, 8), some, ends, some, number(1))
	check(t, flagged(api.Add, 8, api.Nsw), poison, ends, some, number(1))
	check(t, of(api.Udiv, 8), poison, loose, number(3), some)
	check(t, of(api.Gep, api.Ptr), addr(2, -1), ends, addr(2, 4), number(1<<64-5))
	check(t, of(api.Eq, api.Ptr), number(1), ends, null, null)
	check(t, of(api.Add, 8), poison, ends, addr(0, 0), number(1))
	checkNone(t, of(api.Load, 8), addr(0, 0))
}

// P10.1: what each operation makes of two numbers of 8 bits (250 is -6).
func TestNumbers(t *testing.T) {
	want := map[int]uint64{
		api.Add: 253, api.Sub: 247, api.Mul: 238, api.Udiv: 83, api.Sdiv: 254, api.Urem: 1, api.Srem: 0,
		api.And: 2, api.Or: 251, api.Xor: 249, api.Shl: 208, api.Lshr: 31, api.Ashr: 255,
		api.Eq: 0, api.Ne: 1, api.Ult: 0, api.Ule: 0, api.Slt: 1, api.Sle: 1,
	}
	for op := api.Add; op <= api.Sle; op++ {
		check(t, of(op, 8), number(want[op]), ends, number(250), number(3))
	}
	check(t, of(api.Eq, 64), number(1), ends, number(7), number(7))
	check(t, of(api.Ule, 64), number(1), ends, number(7), number(7))
}

// P10.1: whether a division is undefined or loose is asked ahead of everything else.
func TestDivision(t *testing.T) {
	for op := api.Udiv; op <= api.Srem; op++ {
		for _, a := range []api.Val{poison, some, number(0), number(128)} {
			check(t, of(op, 8), poison, undefined, a, poison)
			check(t, of(op, 8), poison, undefined, a, number(0))
			check(t, of(op, 8), poison, undefined, a, number(256))
			check(t, of(op, 8), poison, undefined, a, addr(0, 1))
			check(t, of(op, 8), poison, loose, a, some)
		}
		for _, b := range []uint64{1, 2, 127, 128, 254} {
			check(t, of(op, 8), poison, ends, poison, number(b))
			check(t, of(op, 8), some, ends, some, number(b))
		}
	}
	for _, op := range []int{api.Udiv, api.Sdiv} {
		check(t, flagged(op, 8, api.Exact), poison, ends, some, number(2))
		check(t, flagged(op, 8, api.Exact), poison, ends, number(7), number(2))
		check(t, flagged(op, 8, api.Exact), number(3), ends, number(6), number(2))
	}
}

// P10.1: by -1 the least number is undefined to divide, and so poison and any aren't told.
func TestDivisionByLast(t *testing.T) {
	for _, op := range []int{api.Sdiv, api.Srem} {
		for _, w := range []int{1, 2, 8, 64} {
			last, least := number(math.MaxUint64), number(1<<uint(w-1))
			check(t, of(op, w), poison, undefined, poison, last)
			check(t, of(op, w), poison, loose, some, last)
			check(t, of(op, w), poison, undefined, least, last)
			check(t, of(op, w), number(0), ends, number(0), last)
		}
	}
	check(t, flagged(api.Sdiv, 8, api.Exact), poison, loose, some, number(255))
	check(t, flagged(api.Sdiv, 8, api.Exact), poison, undefined, poison, number(255))
	for _, op := range []int{api.Udiv, api.Urem} {
		check(t, of(op, 8), poison, ends, poison, number(255))
		check(t, of(op, 8), some, ends, some, number(255))
	}
}

// P10.1: a shift by any, or by the width or more, is poison, whatever is shifted.
func TestShift(t *testing.T) {
	for _, op := range []int{api.Shl, api.Lshr, api.Ashr} {
		for _, a := range []api.Val{poison, some, number(0), number(3)} {
			for _, b := range []api.Val{poison, some, number(8), number(9), number(255)} {
				check(t, of(op, 8), poison, ends, a, b)
			}
		}
		check(t, of(op, 8), poison, ends, poison, number(0))
		check(t, of(op, 8), some, ends, some, number(0))
		check(t, of(op, 8), some, ends, some, number(7))
		check(t, of(op, 8), some, ends, some, number(256))
	}
	check(t, of(api.Shl, 64), number(1<<63), ends, number(1), number(63))
	check(t, of(api.Shl, 64), poison, ends, number(1), number(64))
	for _, flags := range []int{api.Nsw, api.Nuw, api.Nsw | api.Nuw} {
		check(t, flagged(api.Shl, 8, flags), poison, ends, some, number(1))
		check(t, flagged(api.Shl, 8, flags), poison, ends, number(128), number(1))
	}
	check(t, flagged(api.Lshr, 8, api.Exact), poison, ends, some, number(1))
	check(t, flagged(api.Ashr, 8, api.Exact), poison, ends, some, number(1))
	check(t, flagged(api.Ashr, 8, api.Exact), poison, ends, number(249), number(1))
}

// P10.1: poison goes ahead of any, and any ahead of numbers, with whatever flags; never is it asked what all numbers have in common.
func TestSum(t *testing.T) {
	for _, op := range []int{api.Add, api.Sub, api.Mul, api.And, api.Or, api.Xor} {
		for _, flags := range flagsOf(op) {
			in := flagged(op, 8, flags)
			want := some
			if flags != 0 {
				want = poison
			}
			check(t, in, poison, ends, poison, number(0))
			check(t, in, poison, ends, number(0), poison)
			check(t, in, poison, ends, some, poison)
			check(t, in, poison, ends, poison, some)
			check(t, in, want, ends, some, number(0))
			check(t, in, want, ends, number(0), some)
			check(t, in, want, ends, some, some)
			check(t, in, poison, ends, addr(0, 0), number(0))
		}
	}
}

// P10.1: comparisons of numbers, any and poison.
func TestComparison(t *testing.T) {
	for op := api.Eq; op <= api.Sle; op++ {
		check(t, of(op, 8), poison, ends, poison, some)
		check(t, of(op, 8), poison, ends, some, poison)
		check(t, of(op, 8), some, ends, some, some)
		check(t, of(op, 8), some, ends, some, number(0))
		check(t, of(op, 8), some, ends, number(255), some)
		check(t, of(op, 8), poison, ends, addr(0, 0), addr(0, 0))
	}
}

// P10.1: addresses are alike, if Block and Off are; numbers are none.
func TestComparisonOfAddresses(t *testing.T) {
	for _, x := range []struct {
		a, b api.Val
		are  uint64
	}{
		{addr(2, 4), addr(2, 4), 1},
		{addr(2, 4), api.Val{Kind: api.IsAddr, Block: 2, Off: 4, Bits: 9}, 1},
		{addr(2, 4), addr(2, 5), 0},
		{addr(2, 4), addr(3, 4), 0},
		{null, addr(0, 0), 0},
		{null, addr(-1, 1), 0},
	} {
		check(t, of(api.Eq, api.Ptr), number(x.are), ends, x.a, x.b)
		check(t, of(api.Ne, api.Ptr), number(1-x.are), ends, x.a, x.b)
	}
	for _, op := range []int{api.Eq, api.Ne} {
		check(t, of(op, api.Ptr), some, ends, null, some)
		check(t, of(op, api.Ptr), some, ends, some, some)
		check(t, of(op, api.Ptr), poison, ends, some, poison)
		check(t, of(op, api.Ptr), poison, ends, number(0), null)
		check(t, of(op, api.Ptr), poison, ends, number(0), number(0))
	}
}

// P10.1: conversions of numbers, of any and of poison; what is converted is read as of the type N.
func TestConversion(t *testing.T) {
	check(t, convert(api.Zext, 8, 16), number(128), ends, number(128))
	check(t, convert(api.Sext, 8, 16), number(65408), ends, number(128))
	check(t, convert(api.Trunc, 16, 8), number(255), ends, number(511))
	check(t, convert(api.Sext, 1, 64), number(math.MaxUint64), ends, number(3))
	check(t, convert(api.Zext, 8, 16), number(1), ends, number(257))
	for _, in := range []api.Instr{convert(api.Zext, 1, 64), convert(api.Sext, 63, 64), convert(api.Trunc, 64, 1)} {
		check(t, in, poison, ends, poison)
		check(t, in, some, ends, some)
		check(t, in, poison, ends, null)
	}
}

// P10.1: one of two, and what is told where nobody says which.
func TestSelect(t *testing.T) {
	in := of(api.Select, 8)
	check(t, in, number(6), ends, number(0), number(5), number(6))
	check(t, in, number(5), ends, number(1), number(5), number(6))
	check(t, in, number(5), ends, number(3), number(5), number(6))
	check(t, in, poison, ends, number(1), poison, number(6))
	check(t, in, some, ends, number(0), poison, some)
	check(t, in, poison, ends, poison, number(5), number(5))
	check(t, in, poison, ends, null, number(5), number(5))
	check(t, in, number(5), ends, some, number(5), number(5+256))
	check(t, in, some, ends, some, number(5), number(6))
	check(t, in, some, ends, some, some, number(6))
	check(t, in, some, ends, some, some, some)
	check(t, in, poison, ends, some, poison, number(6))
	check(t, in, poison, ends, some, some, poison)
	check(t, in, poison, ends, some, poison, poison)
	check(t, of(api.Select, api.Ptr), addr(1, 2), ends, some, addr(1, 2), addr(1, 2))
	check(t, of(api.Select, api.Ptr), some, ends, some, addr(1, 2), addr(1, 3))
	check(t, of(api.Select, api.Ptr), null, ends, number(0), number(7), null)
	check(t, of(api.Select, api.Ptr), poison, ends, number(1), number(7), null)
}

// P10.1: only poison is frozen; and what isn't of the type is poison.
func TestFreeze(t *testing.T) {
	check(t, of(api.Freeze, 8), some, ends, some)
	check(t, of(api.Freeze, 8), number(0), ends, number(256))
	check(t, of(api.Freeze, 8), some, ends, null)
	check(t, of(api.Freeze, api.Ptr), some, ends, poison)
	check(t, of(api.Freeze, api.Ptr), some, ends, number(5))
	check(t, of(api.Freeze, api.Ptr), addr(-1, 3), ends, addr(-1, 3))
}

// P10.1: an address is moved by a number with a sign, and wraps; whether it lies in its block nobody asks.
func TestGep(t *testing.T) {
	in := of(api.Gep, api.Ptr)
	check(t, in, addr(2, 9), ends, addr(2, 4), number(5))
	check(t, in, addr(-1, 5), ends, null, number(5))
	check(t, in, addr(0, math.MinInt64), ends, addr(0, math.MaxInt64), number(1))
	check(t, in, addr(0, math.MaxInt64), ends, addr(0, math.MinInt64), number(math.MaxUint64))
	check(t, in, addr(0, 0), ends, addr(0, math.MinInt64), number(1<<63))
	check(t, in, some, ends, some, number(0))
	check(t, in, some, ends, null, some)
	check(t, in, poison, ends, poison, some)
	check(t, in, poison, ends, some, poison)
	check(t, in, poison, ends, number(4), number(5))
	check(t, in, poison, ends, null, null)
}

// P10.1: what isn't such an instruction, by Op and by how many values there are.
func TestNoSuch(t *testing.T) {
	for _, op := range []int{-1, 0, api.Phi, api.Alloca, api.Load, api.Store, api.Call, api.Br, api.Brif, api.Ret, api.Halt, 35, 99, math.MinInt, math.MaxInt} {
		for _, typ := range []int{api.Void, 8, api.Ptr} {
			args := []api.Val{number(1), number(1), number(1)}
			for n := range 4 {
				checkNone(t, of(op, typ), args[:n]...)
			}
		}
	}
	right := []api.Instr{of(api.Add, 8), of(api.Eq, 8), of(api.Sle, 8), of(api.Gep, api.Ptr), convert(api.Zext, 8, 16), of(api.Freeze, 8), of(api.Select, 8)}
	for i, want := range []int{2, 2, 2, 2, 1, 1, 3} {
		for n := range 6 {
			if n != want {
				checkNone(t, right[i], make([]api.Val, n)...)
			}
		}
	}
}

// P10.1: what isn't such an instruction, by its types.
func TestNoSuchType(t *testing.T) {
	for _, typ := range []int{math.MinInt, -8, -1, api.Void, api.Ptr, 66, 256 + 8, 1<<32 + 8, math.MaxInt} {
		for op := api.Add; op <= api.Sle; op++ {
			if typ != api.Ptr || op != api.Eq && op != api.Ne {
				checkNone(t, of(op, typ), number(1), number(1))
			}
		}
		for _, op := range []int{api.Zext, api.Sext, api.Trunc} {
			checkNone(t, convert(op, 8, typ), number(1))
			checkNone(t, convert(op, typ, 8), number(1))
		}
		if typ != api.Ptr {
			checkNone(t, of(api.Select, typ), number(1), number(1), number(1))
			checkNone(t, of(api.Freeze, typ), number(1))
			checkNone(t, of(api.Gep, typ), null, number(1))
		}
	}
	checkNone(t, of(api.Gep, 64), null, number(1))
	checkNone(t, convert(api.Zext, 8, 8), number(1))
	checkNone(t, convert(api.Sext, 16, 8), number(1))
	checkNone(t, convert(api.Trunc, 8, 16), number(1))
}

// P10.1: what isn't such an instruction, by its flags.
func TestNoSuchFlags(t *testing.T) {
	for _, flags := range []int{math.MinInt, -1, api.Exact, api.Nsw | api.Exact, 7, 8, 1<<32 + 1} {
		checkNone(t, flagged(api.Add, 8, flags), number(1), number(1))
		checkNone(t, flagged(api.Shl, 8, flags), number(1), number(1))
	}
	for _, flags := range []int{api.Nsw, api.Nuw, api.Exact} {
		for _, op := range []int{api.Urem, api.Srem, api.And, api.Or, api.Xor, api.Eq, api.Sle} {
			checkNone(t, flagged(op, 8, flags), number(1), number(1))
		}
		checkNone(t, flagged(api.Select, 8, flags), number(1), number(1), number(1))
		checkNone(t, flagged(api.Freeze, 8, flags), number(1))
		checkNone(t, flagged(api.Gep, api.Ptr, flags), null, number(1))
		checkNone(t, api.Instr{Op: api.Zext, N: 8, Type: 16, Flags: flags}, number(1))
	}
}

// P10.1: fields that aren't looked at change nothing.
func TestIdleFields(t *testing.T) {
	for _, in := range []api.Instr{of(api.Add, 8), of(api.Eq, 8), of(api.Udiv, 8)} {
		want, wantEnd := eval.Eval(in, []api.Val{number(6), number(3)})
		in.Reg, in.N, in.To = -9, 77, []int{5}
		in.Args = []api.Value{{Kind: 99, N: -1, Bits: 3}}
		check(t, in, want, wantEnd, number(6), number(3))
	}
	wild := api.Instr{Op: api.Gep, Type: api.Ptr, N: -5, Reg: math.MaxInt, Args: make([]api.Value, 7), To: []int{-1}}
	check(t, wild, addr(0, 1), ends, addr(0, 0), number(1))
	wild.Op, wild.Type, wild.N = api.Trunc, 8, 16
	check(t, wild, number(1), ends, number(257))
	wild.Op, wild.N = api.Freeze, 16
	check(t, wild, number(1), ends, number(257))
	wild.Op = api.Select
	check(t, wild, number(1), ends, number(1), number(257), poison)
}
