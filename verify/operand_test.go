package verify_test

import (
	"math"
	"testing"

	"lathe/api"
)

// P8.1, 3.5: kinds of operands, and fields that their kinds haven't.
func TestOperandForms(t *testing.T) {
	is := func(v api.Value) func(in *api.Instr) {
		return func(in *api.Instr) { in.Args[1] = v }
	}
	const add, eq = "%9 = add i8 1, 2", "%9 = eq ptr null, null"
	for _, kind := range []int{math.MinInt, -1, 0, 6, 7, math.MaxInt} {
		checkChanged(t, add, api.ErrForm, is(api.Value{Kind: kind}))
		checkChanged(t, add, api.ErrForm, is(api.Value{Kind: kind, N: 1, Bits: 1}))
		checkChanged(t, eq, api.ErrForm, is(api.Value{Kind: kind}))
	}
	for _, n := range []int{math.MinInt, -1, 1, 5, math.MaxInt} {
		checkChanged(t, add, api.ErrForm, is(api.Value{Kind: api.Const, N: n}))
		checkChanged(t, add, api.ErrForm, is(api.Value{Kind: api.Poison, N: n}))
		checkChanged(t, eq, api.ErrForm, is(api.Value{Kind: api.Null, N: n}))
		// The form comes ahead of what is wrong with the operand else.
		checkChanged(t, add, api.ErrForm, is(api.Value{Kind: api.Const, N: n, Bits: 256}))
		checkChanged(t, add, api.ErrForm, is(api.Value{Kind: api.Null, N: n}))
		checkChanged(t, eq, api.ErrForm, is(api.Value{Kind: api.Const, N: n}))
	}
	for _, bits := range []uint64{1, 255, math.MaxUint64} {
		checkChanged(t, add, api.ErrForm, is(api.Value{Kind: api.Reg, N: 1, Bits: bits}))
		checkChanged(t, add, api.ErrForm, is(api.Value{Kind: api.Poison, Bits: bits}))
		checkChanged(t, eq, api.ErrForm, is(api.Value{Kind: api.Null, Bits: bits}))
		checkChanged(t, eq, api.ErrForm, is(api.Value{Kind: api.Global, Bits: bits}))
		checkChanged(t, add, api.ErrForm, is(api.Value{Kind: api.Reg, N: -1, Bits: bits}))
		checkChanged(t, add, api.ErrForm, is(api.Value{Kind: api.Global, N: -1, Bits: bits}))
	}
}

// P8.1, 3.5: registers that nothing makes, and those of other types.
func TestOperandRegisters(t *testing.T) {
	for _, n := range []int{math.MinInt, -1, 7, 10, 4094, 4096, math.MaxInt} {
		checkChanged(t, "%9 = add i8 1, 2", api.ErrReg, func(in *api.Instr) { in.Args[0] = api.Value{Kind: api.Reg, N: n} })
		checkChanged(t, "%9 = load i8 null", api.ErrReg, func(in *api.Instr) { in.Args[0] = api.Value{Kind: api.Reg, N: n} })
	}
	for _, code := range []string{
		"%9 = add i8 %0, 1", "%9 = add i8 1, %2", "%9 = add i16 %1, 1", "%9 = eq ptr %3, null", "%9 = eq i64 %4, 1",
		"%9 = ult i64 %1, 1", "%9 = zext i8 %2 to i16", "%9 = sext i8 %0 to i16", "%9 = trunc i16 %1 to i8",
		"%9 = select i8 %1, 1, 2", "%9 = select i8 1, %2, 2", "%9 = select i8 1, 2, %2", "%9 = select ptr 1, null, %3",
		"%9 = freeze ptr %3", "%9 = load i8 %1", "%9 = load ptr %3", "store i8 %2, %4", "store i8 %1, %3", "store ptr %1, %4",
		"%9 = gep %3, %3", "%9 = gep %4, %4", "%9 = gep %4, %1", "%9 = add i8 %9, %0",
		// A comparison makes an i1, an alloca and a gep an address, whatever their operands.
		"%9 = eq i8 1, 2;%10 = add i8 %9, 1", "%9 = sle i8 1, 2;%10 = add i8 %9, 1", "%9 = gep %4, 1;%10 = add i64 %9, 1",
	} {
		place := at(0, 1, 1)
		if len(read(t, around(code)).Funcs[0].Blocks[1].Code) == 4 {
			place = at(0, 1, 2)
		}
		checkText(t, around(code), api.ErrType, place)
	}
	checkRight(t, around("%9 = eq i8 1, 2;%10 = add i1 %9, 1;%11 = gep %4, 1;%12 = load i8 %11"))
	checkRight(t, "func f() i8;b0:;%0 = alloca 4;%1 = load i8 %0;ret i8 %1;end")
	// The register that a call of nothing hasn't is none.
	checkText(t, around("call y();%9 = add i8 %10, 1"), api.ErrReg, at(0, 1, 2))
}

// P8.1, 3.5: numbers, null and globals where they may not stand.
func TestOperandNumbers(t *testing.T) {
	for _, code := range []string{
		"%9 = add i8 256, 1", "%9 = add i8 1, 256", "%9 = add i1 2, 1", "%9 = add i63 1, 9223372036854775808", "%9 = add i32 4294967296, 1", "%9 = ult i1 1, 3",
		"%9 = zext i8 256 to i16", "%9 = trunc i16 65536 to i8", "%9 = select i8 2, 1, 1", "%9 = select i8 1, 256, 1", "%9 = select i8 1, 1, 256",
		"%9 = eq ptr 0, null", "%9 = eq ptr null, 1", "%9 = load i8 0", "%9 = load i64 7", "store i8 256, %4", "store i8 1, 0", "store ptr 0, null",
		"%9 = gep 0, 0", "%9 = freeze ptr 0", "%9 = select ptr 1, 0, null",
		"%9 = add i8 null, 1", "%9 = add i64 1, null", "%9 = eq i64 @g, 1", "%9 = add i8 1, @g", "%9 = gep null, null", "%9 = gep @g, @g",
		"store i8 @g, @g", "%9 = select ptr null, null, null", "%9 = select i8 @g, 1, 1", "%9 = freeze i64 null",
	} {
		checkText(t, around(code), api.ErrType, at(0, 1, 1))
	}
	for _, n := range []int{math.MinInt, -1, 1, 2, 8, math.MaxInt} {
		checkChanged(t, "%9 = eq ptr null, null", api.ErrName, func(in *api.Instr) { in.Args[0] = api.Value{Kind: api.Global, N: n} })
		checkChanged(t, "%9 = add i8 1, 2", api.ErrName, func(in *api.Instr) { in.Args[1] = api.Value{Kind: api.Global, N: n} })
	}
	check(t, changed(t, plainFunc, func(m *api.Module) {
		m.Funcs[0].Blocks[0].Code = append([]api.Instr{{Op: api.Freeze, Reg: 0, Type: 65, Args: []api.Value{{Kind: api.Global}}}}, m.Funcs[0].Blocks[0].Code...)
	}), api.ErrName, at(0, 0, 0))
}

// P8.1, 3.5: each operand is asked whole ahead of the next one, all of them ahead of all phis and of what stands ahead.
func TestOperandsInOrder(t *testing.T) {
	checkText(t, around("%9 = add i8 %0, %77"), api.ErrType, at(0, 1, 1))
	checkText(t, around("%9 = add i8 %77, %0"), api.ErrReg, at(0, 1, 1))
	checkText(t, around("%9 = add i8 256, 1;%10 = add i8 %77, 1"), api.ErrType, at(0, 1, 1))
	checkText(t, around("%9 = add i8 %9, 1;%10 = phi i8 b0 256;%11 = add i8 null, 1"), api.ErrType, at(0, 1, 2))
	checkText(t, around("%9 = add i8 %4095, 1;%10 = phi i8;%11 = add i8 null, 1"), api.ErrType, at(0, 1, 3))
}

// P8.1, 3.6: where a phi stands, and from where its operands come.
func TestPhis(t *testing.T) {
	// Three come to b3, in numbers' order; b4 does not come to anything's front, b5 isn't reachable.
	phi := func(code string) string {
		return "func f(i8) i8;b0:;brif 1, b1, b2;b1:;brif 1, b3, b3;b2:;brif 1, b4, b3;b3:;" + code + ";ret i8 %0;b4:;ret i8 3;b5:;br b3;end"
	}
	checkRight(t, phi("%1 = phi i8 b1 1, b2 2, b5 3"))
	checkRight(t, phi("%1 = phi i8 b1 1, b2 2, b5 3;%2 = phi ptr b1 null, b2 null, b5 poison;%3 = add i8 %1, 1"))
	for _, code := range []string{
		"%1 = phi i8", "%1 = phi i8 b1 1", "%1 = phi i8 b1 1, b2 2", "%1 = phi i8 b2 2, b1 1, b5 3", "%1 = phi i8 b1 1, b5 3, b2 2",
		"%1 = phi i8 b1 1, b1 1, b2 2, b5 3", "%1 = phi i8 b1 1, b2 2, b5 3, b5 3", "%1 = phi i8 b1 1, b2 2, b4 4", "%1 = phi i8 b1 1, b2 2, b4 4, b5 3",
		"%1 = phi i8 b0 1, b1 1, b2 2, b5 3", "%1 = phi i8 b1 1, b2 2, b5 3, b6 3", "%1 = phi i8 b1 1, b2 2, b999 3", "%1 = phi i8 b3 1, b2 2, b5 3",
	} {
		checkText(t, phi(code), api.ErrPhi, at(0, 3, 0))
	}
	for _, to := range []int{math.MinInt, -1, math.MaxInt} {
		check(t, changed(t, phi("%1 = phi i8 b1 1, b2 2, b5 3"), func(m *api.Module) { instr(m, 3, 0).To[2] = to }), api.ErrPhi, at(0, 3, 0))
	}
	// Behind what isn't a phi, at once or further on; the first one is told.
	checkText(t, phi("%9 = add i8 1, 2;%1 = phi i8 b1 1, b2 2, b5 3"), api.ErrPhi, at(0, 3, 1))
	checkText(t, phi("store i8 1, null;%1 = phi i8 b1 1, b2 2, b5 3;%2 = phi i8 b1 1, b2 2, b5 3"), api.ErrPhi, at(0, 3, 1))
	checkText(t, phi("%1 = phi i8 b1 1, b2 2, b5 3;%9 = add i8 1, 2;%2 = phi i8 b1 1, b2 2, b5 3"), api.ErrPhi, at(0, 3, 2))
	// In block 0, where none comes from.
	checkText(t, "func f() void;b0:;%0 = phi i8;ret;end", api.ErrPhi, at(0, 0, 0))
	// In a block that isn't reachable the same is asked.
	checkText(t, "func f() void;b0:;ret;b1:;%0 = phi i8 b0 1;br b1;end", api.ErrPhi, at(0, 1, 0))
	checkRight(t, "func f() void;b0:;ret;b1:;%0 = phi i8 b1 1;br b1;end")
	// All phis come ahead of all that must stand ahead.
	checkText(t, phi("%1 = phi i8 b1 %2, b2 2, b5 3;%2 = add i8 %3, 1;%3 = phi i8 b1 1, b2 2, b5 3"), api.ErrPhi, at(0, 3, 2))
}

// P8.1, 3.7: what makes an operand stands ahead in its block, or in one that dominates.
func TestAhead(t *testing.T) {
	const dom = api.ErrDom
	checkText(t, around("%9 = add i8 %9, 1"), dom, at(0, 1, 1))
	checkText(t, around("%9 = add i8 %10, 1;%10 = add i8 1, 2"), dom, at(0, 1, 1))
	checkText(t, around("%9 = add i8 1, %10;%10 = add i8 1, 2"), dom, at(0, 1, 1))
	checkText(t, around("%9 = add i8 %4095, 1"), dom, at(0, 1, 1))
	checkRight(t, around("%9 = add i8 1, 2;%10 = add i8 %9, %9"))
	checkText(t, around("store i8 %9, null;%9 = add i8 %10, 1;%10 = add i8 %9, 1"), dom, at(0, 1, 1))
	// Two ways that meet again; ends' operands, too.
	ways := func(one, other, meet string) string {
		return "func f(i1) i1;b0:;%1 = freeze i1 %0;brif %1, b1, b2;b1:;%2 = freeze i1 %1;" + one + ";b2:;%3 = freeze i1 %1;" + other + ";b3:;" + meet + ";b4:;%4 = freeze i1 %1;ret i1 %4;end"
	}
	checkRight(t, ways("brif %2, b3, b4", "brif %3, b3, b4", "ret i1 %1"))
	checkText(t, ways("brif %3, b3, b4", "br b3", "ret i1 %1"), dom, at(0, 1, 1))
	checkText(t, ways("br b3", "brif %2, b3, b4", "ret i1 %1"), dom, at(0, 2, 1))
	checkText(t, ways("br b3", "brif %1, b3, b4", "ret i1 %2"), dom, at(0, 3, 0))
	checkText(t, ways("br b4", "brif %1, b3, b4", "ret i1 %2"), dom, at(0, 3, 0))
	checkRight(t, ways("br b4", "brif %1, b3, b4", "ret i1 %3"))
	checkText(t, ways("br b3", "br b4", "ret i1 %4"), dom, at(0, 3, 0))
	// What stands further on by its number may stand ahead by the ways.
	checkRight(t, "func f() i8;b0:;br b2;b1:;ret i8 %0;b2:;%0 = add i8 1, 2;br b1;end")
	checkText(t, "func f() i8;b0:;br b1;b1:;%1 = add i8 %0, 1;br b2;b2:;%0 = add i8 1, 2;brif 1, b1, b3;b3:;ret i8 %1;end", dom, at(0, 1, 0))
}

// P8.1, 3.7: an operand of a phi must be made where it comes from, or ahead of that.
func TestAheadOfPhis(t *testing.T) {
	const dom = api.ErrDom
	round := func(phis, behind string) string {
		return "func f(i8) i8;b0:;%1 = add i8 %0, 1;br b1;b1:;" + phis + ";brif 1, b2, b3;b2:;" + behind + ";br b1;b3:;%8 = add i8 1, 2;ret i8 %1;end"
	}
	const made = "%9 = add i8 1, 2"
	checkRight(t, round("%2 = phi i8 b0 %1, b2 %9", made))
	checkRight(t, round("%2 = phi i8 b0 %1, b2 %2", made))
	checkRight(t, round("%2 = phi i8 b0 %0, b2 %3;%3 = phi i8 b0 1, b2 %2", made))
	checkRight(t, round("%2 = phi i8 b0 %1, b2 %1;%7 = add i8 %2, %1", made))
	checkText(t, round("%2 = phi i8 b0 %9, b2 %1", made), dom, at(0, 1, 0))
	checkText(t, round("%2 = phi i8 b0 %2, b2 %1", made), dom, at(0, 1, 0))
	checkText(t, round("%2 = phi i8 b0 %1, b2 %8", made), dom, at(0, 1, 0))
	checkText(t, round("%2 = phi i8 b0 %1, b2 %1;%3 = phi i8 b0 %2, b2 %1", made), dom, at(0, 1, 1))
	// An end of its own is behind all that stands in its block.
	checkRight(t, "func f() i8;b0:;br b1;b1:;%0 = phi i8 b0 1, b1 %1;%1 = add i8 %0, 1;brif 1, b1, b2;b2:;ret i8 %1;end")
	checkText(t, "func f() i8;b0:;br b1;b1:;%0 = phi i8 b0 %1, b1 1;%1 = add i8 %0, 1;brif 1, b1, b2;b2:;ret i8 %1;end", dom, at(0, 1, 0))
}

// P8.1, 3.7: where the way doesn't come nothing is asked; what is made there stands ahead of nothing that is reachable.
func TestAheadNotReachable(t *testing.T) {
	far := func(there, here string) string {
		return "func f() i8;b0:;%0 = add i8 1, 2;br b2;b1:;" + there + ";br b2;b2:;" + here + ";ret i8 %0;b3:;%9 = add i8 1, 2;br b1;end"
	}
	checkRight(t, far("%1 = add i8 %1, 1", "%2 = add i8 %0, 1"))
	checkRight(t, far("%1 = add i8 %3, %9;%3 = add i8 %2, 1", "%2 = add i8 %0, 1"))
	checkRight(t, far("%1 = phi i8 b3 %2", "%2 = add i8 %0, 1"))
	checkRight(t, far("%1 = phi i8 b3 %1", "%2 = phi i8 b0 1, b1 %2"))
	checkRight(t, far("%1 = add i8 1, 2", "%2 = phi i8 b0 %0, b1 %1;%3 = phi i8 b0 %0, b1 %9"))
	checkText(t, far("%1 = add i8 1, 2", "%2 = add i8 %1, 1"), api.ErrDom, at(0, 2, 0))
	checkText(t, far("%1 = add i8 1, 2", "%2 = add i8 %9, 1"), api.ErrDom, at(0, 2, 0))
	checkText(t, far("%1 = add i8 1, 2", "%2 = phi i8 b0 %1, b1 %1"), api.ErrDom, at(0, 2, 0))
	checkText(t, far("%1 = add i8 1, 2", "%2 = phi i8 b0 %2, b1 1"), api.ErrDom, at(0, 2, 0))
	// The type is asked there as everywhere.
	checkText(t, far("%1 = add i8 %1, null", "%2 = add i8 1, 2"), api.ErrType, at(0, 1, 0))
	checkText(t, far("%1 = add i8 %77, 1", "%2 = add i8 1, 2"), api.ErrReg, at(0, 1, 0))
}
