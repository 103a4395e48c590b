package comb_test

import (
	"math"
	"slices"
	"testing"

	"lathe/api"
	"lathe/comb"
	"lathe/samples"
)

// The function of most tests by hand has %0, %1 of i8, %2 of i1, %3 of ptr, %4 of i16, %5 of i64, %6 of i32, %7 of i2.
const head = "global g 8;global h 8;extern x() i8;func f(i8, i8, i1, ptr, i16, i64, i32, i2) void;b0:;"

func read(t *testing.T, text string) api.Module {
	t.Helper()
	m, ok := samples.Read(text)
	if !ok {
		t.Fatal("not right:", text)
	}
	return m
}

// ruled is what Rule answers of the last instruction ahead of the ret.
func ruled(t *testing.T, code string) (api.Instr, int) {
	t.Helper()
	f := read(t, head+code+";ret;end").Funcs[0]
	return comb.Rule(f, api.Place{At: len(f.Blocks[0].Code) - 2})
}

// checkOperand asks that the last instruction is an operand.
func checkOperand(t *testing.T, want api.Value, all ...string) {
	t.Helper()
	for _, code := range all {
		if in, how := ruled(t, code); how != 1 || !isSame(in, api.Instr{Args: []api.Value{want}}) {
			t.Errorf("Rule of %v: %v, %v, not %v", code, in, how, want)
		}
	}
}

// checkTurns asks what the last instruction, which makes %9, turns into.
func checkTurns(t *testing.T, code, want string) {
	t.Helper()
	in, how := ruled(t, code)
	// What makes its operands stands ahead, in the one text as in the other.
	lines := read(t, head+"%8 = freeze i8 0;%10 = freeze i1 0;%11 = freeze i32 0;%9 = "+want+";ret;end").Funcs[0].Blocks[0].Code
	if wanted := lines[len(lines)-2]; how != 2 || !isSame(in, wanted) {
		t.Errorf("Rule of %v: %v, %v, not %v", code, in, how, wanted)
	}
}

// checkStays asks that no rule applies to the last instruction.
func checkStays(t *testing.T, all ...string) {
	t.Helper()
	for _, code := range all {
		if in, how := ruled(t, code); how != 0 || !isSame(in, api.Instr{}) {
			t.Errorf("Rule of %v: %v, %v", code, in, how)
		}
	}
}

// The chapter's examples, one by one.
func TestExamples(t *testing.T) {
	checkTurns(t, "%9 = mul i8 %0, 8", "shl i8 %0, 3")
	checkTurns(t, "%9 = udiv exact i8 %0, 4", "lshr exact i8 %0, 2")
	checkTurns(t, "%10 = xor i1 %2, 1;%9 = select i8 %10, 5, 6", "select i8 %2, 6, 5")
	checkOperand(t, reg(0), "%11 = zext i8 %0 to i32;%9 = trunc i32 %11 to i8")
}

// P16.1: rule 1, ahead of all others: what folds.
func TestFolds(t *testing.T) {
	checkOperand(t, number(44), "%9 = add i8 200, 100")
	checkOperand(t, poison, "%9 = add nuw i8 200, 100", "%9 = xor i8 poison, poison", "%9 = eq i8 poison, poison", "%9 = and i8 poison, 0", "%9 = or i8 poison, 255", "%9 = ule i8 poison, 255", "%9 = select i1 poison, 1, 0", "%9 = select i8 poison, 5, 5")
	checkOperand(t, number(0), "%9 = freeze i8 poison")
	checkOperand(t, null, "%9 = freeze ptr poison", "%9 = gep null, 0")
	checkOperand(t, global(1), "%9 = gep @h, 0", "%9 = freeze ptr @h", "%9 = select ptr 0, null, @h")
	checkStays(t, "%9 = gep @h, 1", "%9 = udiv i8 6, 3", "%9 = udiv i8 1, 0", "%9 = srem i8 5, 3")
}

// P16.1: rule 2, ahead of rules 3 to 9.
func TestSwaps(t *testing.T) {
	for _, op := range []string{"add", "mul", "and", "or", "xor", "eq", "ne"} {
		checkTurns(t, "%9 = "+op+" i8 3, %0", op+" i8 %0, 3")
		checkTurns(t, "%9 = "+op+" i8 0, %0", op+" i8 %0, 0")
		checkTurns(t, "%9 = "+op+" i8 1, %0", op+" i8 %0, 1")
		checkTurns(t, "%9 = "+op+" i8 poison, %0", op+" i8 %0, poison")
		checkStays(t, "%9 = "+op+" i8 %0, %1", "%9 = "+op+" i8 %1, %0", "%9 = "+op+" i8 %0, poison")
	}
	checkTurns(t, "%9 = add nsw nuw i8 3, %0", "add nsw nuw i8 %0, 3")
	checkTurns(t, "%9 = eq ptr null, %3", "eq ptr %3, null")
	checkTurns(t, "%9 = ne ptr @h, %3", "ne ptr %3, @h")
	for _, op := range []string{"sub", "udiv", "sdiv", "urem", "srem", "shl", "lshr", "ashr", "ult", "ule", "slt", "sle"} {
		checkStays(t, "%9 = "+op+" i8 3, %0", "%9 = "+op+" i8 0, %0", "%9 = "+op+" i8 1, %0", "%9 = "+op+" i8 255, %0")
	}
	checkStays(t, "%9 = gep @g, %5", "%9 = gep null, %5", "%9 = select i8 %2, 3, %0")
}

// P16.1: rule 3: what leaves x as it is.
func TestLeaves(t *testing.T) {
	for _, op := range []string{"add", "sub", "or", "xor", "shl", "lshr", "ashr"} {
		checkOperand(t, reg(0), "%9 = "+op+" i8 %0, 0")
		checkOperand(t, reg(2), "%9 = "+op+" i1 %2, 0")
	}
	for _, op := range []string{"mul", "udiv", "sdiv"} {
		checkOperand(t, reg(0), "%9 = "+op+" i8 %0, 1")
		checkOperand(t, reg(2), "%9 = "+op+" i1 %2, 1")
	}
	checkOperand(t, reg(0), "%9 = add nsw nuw i8 %0, 0", "%9 = shl nuw i8 %0, 0", "%9 = ashr exact i8 %0, 0", "%9 = mul nsw i8 %0, 1", "%9 = sdiv exact i8 %0, 1", "%9 = and i8 %0, 255")
	checkOperand(t, reg(2), "%9 = and i1 %2, 1")
	checkOperand(t, reg(5), "%9 = and i64 %5, 18446744073709551615")
	checkOperand(t, reg(3), "%9 = gep %3, 0")
	checkOperand(t, number(7), "%9 = udiv i8 7, 1", "%9 = sdiv i8 7, 1")
	checkOperand(t, poison, "%9 = udiv exact i8 poison, 1")
	checkStays(t, "%9 = shl i8 %0, 1", "%9 = ashr i8 %0, 255", "%9 = and i8 %0, 254", "%9 = and i16 %4, 255", "%9 = gep %3, 1", "%9 = gep %3, %5", "%9 = sdiv i8 %0, 255", "%9 = add i8 %0, 1", "%9 = or i8 %0, 1", "%9 = udiv i8 %0, 0")
}

// P16.1: rules 4 to 6: what a number alone tells.
func TestAbsorbs(t *testing.T) {
	checkOperand(t, number(0), "%9 = mul i8 %0, 0", "%9 = mul nsw nuw i8 %0, 0", "%9 = and i8 %0, 0", "%9 = and i1 %2, 0", "%9 = ult i8 %0, 0", "%9 = ult i64 %5, 0")
	checkOperand(t, number(0), "%9 = urem i8 %0, 1", "%9 = srem i8 %0, 1", "%9 = urem i1 %2, 1", "%9 = srem i1 %2, 1", "%9 = srem i8 5, 1", "%9 = urem i8 poison, 1")
	checkOperand(t, number(255), "%9 = or i8 %0, 255")
	checkOperand(t, number(math.MaxUint64), "%9 = or i64 %5, 18446744073709551615")
	checkOperand(t, number(1), "%9 = or i1 %2, 1", "%9 = ule i8 %0, 255", "%9 = ule i1 %2, 1", "%9 = ule i64 %5, 18446744073709551615")
	checkStays(t, "%9 = or i16 %4, 255", "%9 = ule i16 %4, 255", "%9 = ule i8 %0, 254", "%9 = ult i8 %0, 1", "%9 = slt i8 %0, 128", "%9 = sle i8 %0, 127", "%9 = slt i8 %0, 0", "%9 = sle i8 %0, 255", "%9 = urem i8 %0, 0", "%9 = srem i8 %0, 255", "%9 = ule i8 0, %0")
}

// P16.1: rules 7 to 9: of x, x.
func TestTheSame(t *testing.T) {
	checkOperand(t, number(0), "%9 = sub i8 %0, %0", "%9 = sub nsw nuw i8 %0, %0", "%9 = xor i8 %0, %0", "%9 = ne i8 %0, %0", "%9 = ne ptr %3, %3", "%9 = ult i8 %0, %0", "%9 = slt i8 %0, %0")
	checkOperand(t, reg(0), "%9 = and i8 %0, %0", "%9 = or i8 %0, %0")
	checkOperand(t, number(1), "%9 = eq i8 %0, %0", "%9 = eq ptr %3, %3", "%9 = ule i8 %0, %0", "%9 = sle i8 %0, %0")
	for _, op := range []string{"sub", "xor", "ne", "ult", "slt", "and", "or", "eq", "ule", "sle"} {
		checkStays(t, "%9 = "+op+" i8 %0, %1")
	}
	for _, op := range []string{"add", "mul", "udiv", "sdiv", "urem", "srem", "shl", "lshr", "ashr"} {
		checkStays(t, "%9 = "+op+" i8 %0, %0", "%9 = "+op+" i8 %0, %1")
	}
	checkStays(t, "%9 = udiv i8 5, 5", "%9 = srem i8 5, 5", "%9 = sdiv i8 poison, poison")
}

// P16.1: rule 10.
func TestSelects(t *testing.T) {
	checkOperand(t, reg(0), "%9 = select i8 1, %0, %1", "%9 = select i8 0, %1, %0", "%9 = select i8 %2, %0, %0", "%9 = select i8 poison, %0, %0", "%9 = select i8 1, %0, poison")
	checkOperand(t, reg(2), "%9 = select i1 %2, 1, 0", "%9 = select i1 1, %2, 0", "%9 = select i1 %2, %2, %2")
	checkOperand(t, number(5), "%9 = select i8 %2, 5, 5")
	checkOperand(t, poison, "%9 = select i8 %2, poison, poison", "%9 = select i8 1, poison, %0")
	checkOperand(t, null, "%9 = select ptr %2, null, null")
	checkStays(t, "%9 = select i1 %2, 0, 1", "%9 = select i8 %2, 1, 0", "%9 = select i8 poison, %0, %1", "%9 = select i8 %2, %0, %1", "%9 = select i1 %2, 1, poison", "%9 = select i1 %2, %2, 0", "%9 = select i1 %2, 1, 1;%10 = select i1 %2, 0, %9")
}

// P16.1: rules 11 and 12.
func TestUndone(t *testing.T) {
	checkOperand(t, reg(8), "%8 = freeze i8 %0;%9 = freeze i8 %8")
	checkOperand(t, reg(12), "%12 = freeze ptr null;%9 = freeze ptr %12")
	checkStays(t, "%9 = freeze i8 %0", "%8 = add i8 %0, 1;%9 = freeze i8 %8", "%8 = alloca 8;%9 = freeze ptr %8", "%8 = freeze i8 %0;%10 = add i8 %8, %8;%9 = freeze i8 %10")
	checkOperand(t, reg(0), "%11 = sext i8 %0 to i32;%9 = trunc i32 %11 to i8")
	checkOperand(t, reg(2), "%11 = zext i1 %2 to i32;%9 = trunc i32 %11 to i1")
	checkOperand(t, number(7), "%11 = zext i8 7 to i32;%9 = trunc i32 %11 to i8")
	checkOperand(t, poison, "%11 = sext i8 poison to i32;%9 = trunc i32 %11 to i8")
	checkStays(t, "%11 = zext i8 %0 to i32;%9 = trunc i32 %11 to i16", "%11 = sext i8 %0 to i32;%9 = trunc i32 %11 to i7", "%9 = trunc i32 %6 to i8")
}

// P16.1: rule 13.
func TestSub(t *testing.T) {
	checkTurns(t, "%9 = sub i8 %0, 1", "add i8 %0, 255")
	checkTurns(t, "%9 = sub i8 %0, 128", "add i8 %0, 128")
	checkTurns(t, "%9 = sub i1 %2, 1", "add i1 %2, 1")
	checkTurns(t, "%9 = sub i64 %5, 2", "add i64 %5, 18446744073709551614")
	checkStays(t, "%9 = sub nsw i8 %0, 1", "%9 = sub nuw i8 %0, 1", "%9 = sub i8 1, %0", "%9 = sub i8 %0, poison")
}

// P16.1: rules 14 to 16: 2^k, k from 1 on and below the width.
func TestPowers(t *testing.T) {
	checkTurns(t, "%9 = mul i8 %0, 2", "shl i8 %0, 1")
	checkTurns(t, "%9 = mul i8 %0, 128", "shl i8 %0, 7")
	checkTurns(t, "%9 = mul i2 %7, 2", "shl i2 %7, 1")
	checkTurns(t, "%9 = mul i64 %5, 9223372036854775808", "shl i64 %5, 63")
	checkStays(t, "%9 = mul i8 %0, 3", "%9 = mul i8 %0, 255", "%9 = mul nsw i8 %0, 2", "%9 = mul nuw i8 %0, 2")
	checkTurns(t, "%9 = udiv i8 %0, 128", "lshr i8 %0, 7")
	checkTurns(t, "%9 = udiv i2 %7, 2", "lshr i2 %7, 1")
	checkTurns(t, "%9 = udiv i64 %5, 9223372036854775808", "lshr i64 %5, 63")
	checkTurns(t, "%9 = udiv i8 8, 4", "lshr i8 8, 2")
	checkTurns(t, "%9 = udiv exact i8 poison, 2", "lshr exact i8 poison, 1")
	checkStays(t, "%9 = udiv i8 %0, 6", "%9 = udiv i8 %0, 0", "%9 = udiv i8 2, %0", "%9 = sdiv i8 %0, 2", "%9 = sdiv exact i8 %0, 64", "%9 = udiv i8 %0, poison")
	checkTurns(t, "%9 = urem i8 %0, 2", "and i8 %0, 1")
	checkTurns(t, "%9 = urem i8 %0, 128", "and i8 %0, 127")
	checkTurns(t, "%9 = urem i64 %5, 9223372036854775808", "and i64 %5, 9223372036854775807")
	checkTurns(t, "%9 = urem i8 poison, 4", "and i8 poison, 3")
	checkStays(t, "%9 = urem i8 %0, 3", "%9 = urem i8 %0, 255", "%9 = srem i8 %0, 2", "%9 = srem i8 %0, 128")
}

// P16.1: rule 17.
func TestJoins(t *testing.T) {
	checkTurns(t, "%8 = add i8 %0, 200;%9 = add i8 %8, 100", "add i8 %0, 44")
	checkTurns(t, "%8 = mul i8 %0, 3;%9 = mul i8 %8, 100", "mul i8 %0, 44")
	checkTurns(t, "%8 = mul i8 %0, 48;%9 = mul i8 %8, 48", "mul i8 %0, 0")
	checkTurns(t, "%8 = and i8 %0, 12;%9 = and i8 %8, 6", "and i8 %0, 4")
	checkTurns(t, "%8 = or i8 %0, 12;%9 = or i8 %8, 6", "or i8 %0, 14")
	checkTurns(t, "%8 = xor i8 %0, 12;%9 = xor i8 %8, 6", "xor i8 %0, 10")
	checkTurns(t, "%8 = add i8 3, 4;%9 = add i8 %8, 5", "add i8 3, 9")
	checkTurns(t, "%8 = add i8 poison, 4;%9 = add i8 %8, 5", "add i8 poison, 9")
	// A power of two is rule 14's, which comes ahead.
	checkTurns(t, "%8 = mul i8 %0, 3;%9 = mul i8 %8, 4", "shl i8 %8, 2")
	checkStays(t,
		"%8 = add nsw i8 %0, 1;%9 = add i8 %8, 2", "%8 = add i8 %0, 1;%9 = add nuw i8 %8, 2", "%8 = mul nuw i8 %0, 3;%9 = mul i8 %8, 3", "%8 = mul i8 %0, 3;%9 = mul nsw i8 %8, 6",
		"%8 = add i8 1, %0;%9 = add i8 %8, 2", "%8 = add i8 %0, %1;%9 = add i8 %8, 2", "%8 = add i8 %0, 1;%9 = add i8 %8, %1", "%8 = add i8 %0, 1;%9 = add i8 %1, %8",
		"%8 = add i8 %0, 1;%9 = xor i8 %8, 2", "%8 = sub i8 %0, 1;%9 = add i8 %8, 2", "%8 = and i8 %0, 1;%9 = or i8 %8, 2",
		"%8 = shl i8 %0, 1;%9 = shl i8 %8, 1", "%8 = lshr i8 %0, 1;%9 = lshr i8 %8, 1", "%8 = udiv i8 %0, 3;%9 = udiv i8 %8, 3", "%8 = add i8 %0, poison;%9 = add i8 %8, 2")
}

// P16.1: rule 18.
func TestCompares(t *testing.T) {
	checkTurns(t, "%8 = add i8 %0, 3;%9 = eq i8 %8, 2", "eq i8 %0, 255")
	checkTurns(t, "%8 = add i8 %0, 3;%9 = ne i8 %8, 7", "ne i8 %0, 4")
	checkTurns(t, "%8 = xor i8 %0, 12;%9 = eq i8 %8, 6", "eq i8 %0, 10")
	checkTurns(t, "%8 = xor i8 %0, 12;%9 = ne i8 %8, 12", "ne i8 %0, 0")
	checkTurns(t, "%8 = xor i8 7, 12;%9 = ne i8 %8, 12", "ne i8 7, 0")
	checkStays(t,
		"%8 = add nsw i8 %0, 3;%9 = eq i8 %8, 2", "%8 = add nuw i8 %0, 3;%9 = ne i8 %8, 2", "%8 = sub i8 %0, 3;%9 = eq i8 %8, 2", "%8 = mul i8 %0, 3;%9 = eq i8 %8, 6", "%8 = or i8 %0, 3;%9 = eq i8 %8, 3",
		"%8 = add i8 %0, 3;%9 = ult i8 %8, 2", "%8 = xor i8 %0, 3;%9 = sle i8 %8, 2", "%8 = add i8 %0, 3;%9 = eq i8 %8, %1", "%8 = add i8 3, %0;%9 = eq i8 %8, 2", "%8 = gep %3, 1;%9 = eq ptr %8, @g")
}

// P16.1: rule 19.
func TestConversions(t *testing.T) {
	checkTurns(t, "%12 = zext i8 %0 to i16;%9 = zext i16 %12 to i32", "zext i8 %0 to i32")
	checkTurns(t, "%12 = sext i1 %2 to i16;%9 = sext i16 %12 to i64", "sext i1 %2 to i64")
	checkTurns(t, "%12 = trunc i64 %5 to i16;%9 = trunc i16 %12 to i1", "trunc i64 %5 to i1")
	checkTurns(t, "%12 = zext i8 9 to i16;%9 = zext i16 %12 to i32", "zext i8 9 to i32")
	checkStays(t, "%12 = zext i8 %0 to i16;%9 = sext i16 %12 to i32", "%12 = sext i8 %0 to i16;%9 = zext i16 %12 to i32", "%12 = trunc i32 %6 to i16;%9 = zext i16 %12 to i32", "%9 = zext i8 %0 to i16")
}

// P16.1: rule 20.
func TestOtherSelects(t *testing.T) {
	checkTurns(t, "%10 = xor i1 %2, 1;%9 = select i8 %10, %0, %1", "select i8 %2, %1, %0")
	checkTurns(t, "%10 = xor i1 %2, 1;%9 = select ptr %10, %3, null", "select ptr %2, null, %3")
	checkTurns(t, "%10 = xor i1 %2, 1;%9 = select i1 %10, 0, 1", "select i1 %2, 1, 0")
	checkTurns(t, "%10 = xor i1 0, 1;%9 = select i8 %10, %0, %1", "select i8 0, %1, %0")
	// Rule 10 comes ahead.
	checkOperand(t, reg(10), "%10 = xor i1 %2, 1;%9 = select i1 %10, 1, 0")
	checkStays(t, "%10 = xor i1 %2, 0;%9 = select i8 %10, %0, %1", "%10 = xor i1 1, %2;%9 = select i8 %10, %0, %1", "%10 = add i1 %2, 1;%9 = select i8 %10, %0, %1", "%10 = xor i1 %2, %2;%9 = select i8 %10, %0, %1")
}

// P16.1: what isn't calm and no division isn't ruled, whatever its operands are.
func TestNotRuled(t *testing.T) {
	checkStays(t, "store i8 0, @g", "%9 = load i8 @g", "%9 = alloca 1", "%9 = call x()")
	f := read(t, "func f() i8;b0:;br b1;b1:;%0 = phi i8 b0 3;brif 1, b2, b2;b2:;%1 = add i8 %0, 1;ret i8 %1;end").Funcs[0]
	eachPlace(f, func(p api.Place) {
		if in, how := comb.Rule(f, p); how != 0 || !isSame(in, api.Instr{}) {
			t.Error(p, in, how)
		}
	})
}

// P16.1: the maker stands in whatever block; of blocks that aren't reachable nothing is ruled; Func is not looked at; where nothing stands there is no rule.
func TestPlaces(t *testing.T) {
	f := read(t, "func f(i8) i8;b0:;br b2;b1:;%1 = add i8 %2, 1;ret i8 %1;b2:;%2 = add i8 %0, 1;br b1;b3:;%3 = add i8 %0, 0;%4 = add i8 1, 2;%5 = add i8 %5, 0;br b1;end").Funcs[0]
	for _, n := range []int{0, -1, 7, math.MaxInt, math.MinInt} {
		in, how := comb.Rule(f, api.Place{Func: n, Block: 1})
		if want := (api.Instr{Op: api.Add, Reg: 1, Type: 8, Args: []api.Value{reg(0), number(2)}}); how != 2 || !isSame(in, want) {
			t.Error(n, in, how)
		}
	}
	none := []api.Place{{Block: 3}, {Block: 3, At: 1}, {Block: 3, At: 2}, {Block: 4}, {Block: -1}, {Block: math.MaxInt}, {Block: math.MinInt}, {At: -1}, {At: 1}, {Block: 1, At: 2}, {Block: 1, At: math.MaxInt}, {Block: 1, At: math.MinInt}}
	for _, p := range none {
		if in, how := comb.Rule(f, p); how != 0 || !isSame(in, api.Instr{}) {
			t.Error(p, in, how)
		}
	}
	if in, how := comb.Rule(api.Func{}, api.Place{}); how != 0 || !isSame(in, api.Instr{}) {
		t.Error(in, how)
	}
}

// P16.1: fields that aren't told stay; those of an operand are zero, but Args.
func TestFields(t *testing.T) {
	f := api.Func{Params: []int{8}, Blocks: []api.Block{{Code: []api.Instr{
		{Op: api.Add, Reg: 4, Type: 8, N: 9, Flags: api.Nsw, Args: []api.Value{number(3), reg(0)}, To: []int{5, 6}},
		{Op: api.Add, Reg: 5, Type: 8, N: 9, Flags: api.Nsw, Args: []api.Value{reg(0), number(0)}, To: []int{5, 6}},
		{Op: api.Halt, Reg: -1},
	}}}}
	in, how := comb.Rule(f, api.Place{})
	if want := (api.Instr{Op: api.Add, Reg: 4, Type: 8, N: 9, Flags: api.Nsw, Args: []api.Value{reg(0), number(3)}, To: []int{5, 6}}); how != 2 || !isSame(in, want) {
		t.Error(in, how)
	}
	in.To[0], in.Args[0] = 99, poison
	if code := f.Blocks[0].Code[0]; code.To[0] != 5 || !slices.Equal(code.Args, []api.Value{number(3), reg(0)}) {
		t.Error("what is handed in is changed:", code)
	}
	if in, how = comb.Rule(f, api.Place{At: 1}); how != 1 || !isSame(in, api.Instr{Args: []api.Value{reg(0)}}) {
		t.Error(in, how)
	}
}
