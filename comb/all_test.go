package comb_test

import (
	"maps"
	"testing"

	"lathe/api"
	"lathe/comb"
	"lathe/ir"
	"lathe/refine"
	"lathe/run"
	"lathe/spell"
	"lathe/uses"
	"lathe/verify"
)

// checkAll combs a program's functions, and holds its text against the one that is told.
func checkAll(t *testing.T, text, want string) {
	t.Helper()
	if got := spell.Text(combed(read(t, text))); got != spell.Text(read(t, want)) {
		t.Errorf("All of\n%s\nis\n%s", text, got)
	}
}

// checkSame asks that a program stays.
func checkSame(t *testing.T, text string) {
	t.Helper()
	checkAll(t, text, text)
}

// The chapter's examples, whole, and DOC.md's third. What nobody uses any more goes by clean, for no rule here takes it away.
func TestAllExamples(t *testing.T) {
	three := "func f(i8) i8;b0:;%1 = add i8 3, %0;%2 = add i8 %1, 5;%3 = sub i8 %2, 8;ret i8 %3;end"
	checkAll(t, three, "func f(i8) i8;b0:;%1 = add i8 %0, 3;%2 = add i8 %0, 8;ret i8 %0;end")
	met := map[int]int{}
	clean := uses.Clean(allByWords(read(t, three).Funcs[0], met))
	if !ir.SameFunc(clean, read(t, "func f(i8) i8;b0:;ret i8 %0;end").Funcs[0]) || !maps.Equal(met, map[int]int{2: 1, 17: 2, 13: 1, 3: 1}) {
		t.Error(clean, met)
	}
	checkAll(t, "func f(i8) i8;b0:;%1 = mul i8 %0, 8;ret i8 %1;end", "func f(i8) i8;b0:;%1 = shl i8 %0, 3;ret i8 %1;end")
	checkAll(t, "func f(i8) i8;b0:;%1 = udiv exact i8 %0, 4;ret i8 %1;end", "func f(i8) i8;b0:;%1 = lshr exact i8 %0, 2;ret i8 %1;end")
	checkAll(t, "func f(i1) i8;b0:;%1 = xor i1 %0, 1;%2 = select i8 %1, 5, 6;ret i8 %2;end", "func f(i1) i8;b0:;%1 = xor i1 %0, 1;%2 = select i8 %0, 6, 5;ret i8 %2;end")
	checkAll(t, "func f(i8) i8;b0:;%1 = zext i8 %0 to i32;%2 = trunc i32 %1 to i8;ret i8 %2;end", "func f(i8) i8;b0:;%1 = zext i8 %0 to i32;ret i8 %0;end")
}

// DOC.md's examples: a freeze stays where what is frozen may be poison.
func TestFreezeStays(t *testing.T) {
	checkSame(t, "func f(i8) i8;b0:;%1 = add nsw i8 %0, 1;%2 = freeze i8 %1;ret i8 %2;end")
	checkSame(t, "extern x() void;func f() i8;b0:;call x();%0 = udiv i8 1, 0;ret i8 %0;end")
}

// P16.1: rule behind rule, in a block and over blocks; what nobody uses is ruled too, and stays where it is no operand.
func TestRuleBehindRule(t *testing.T) {
	checkAll(t,
		"func f(i8) i8;b0:;%1 = udiv i8 12, 4;%2 = mul i8 %1, %0;%3 = urem i8 %2, 1;%4 = add i8 %2, %3;ret i8 %4;end",
		"func f(i8) i8;b0:;%2 = mul i8 %0, 3;ret i8 %2;end")
	checkAll(t,
		"func f(i8) i1;b0:;%1 = add i8 %0, 7;%2 = xor i8 %1, 5;%3 = eq i8 %2, 9;br b1;b1:;%4 = xor i1 %3, 1;%5 = select i1 %4, 0, 1;ret i1 %5;end",
		"func f(i8) i1;b0:;%1 = add i8 %0, 7;%2 = xor i8 %1, 5;%3 = eq i8 %0, 5;br b1;b1:;%4 = xor i1 %3, 1;ret i1 %3;end")
	checkAll(t,
		"func f(i8) i8;b0:;%1 = sub i8 %0, %0;%2 = sub i8 %1, %0;%3 = mul i8 %1, %0;%4 = shl i8 %3, %0;ret i8 %0;end",
		"func f(i8) i8;b0:;%2 = sub i8 0, %0;%4 = shl i8 0, %0;ret i8 %0;end")
}

// P16.1: every use of what becomes an operand is that operand, of whatever instruction, Phis and blocks that aren't reachable among them.
func TestEveryUse(t *testing.T) {
	checkAll(t,
		"global g 8;extern x(i8, i8) i8;func f(i8, ptr) i8;b0:;%2 = or i8 %0, 0;%3 = gep %1, 0;store i8 %2, %3;%4 = call x(%2, %2);%5 = udiv i8 %2, %2;%6 = load i8 %3;%7 = zext i8 %2 to i64;%8 = gep %3, %7;%9 = call f(%2, %3);store ptr %3, @g;ret i8 %2;end",
		"global g 8;extern x(i8, i8) i8;func f(i8, ptr) i8;b0:;store i8 %0, %1;%4 = call x(%0, %0);%5 = udiv i8 %0, %0;%6 = load i8 %1;%7 = zext i8 %0 to i64;%8 = gep %1, %7;%9 = call f(%0, %1);store ptr %1, @g;ret i8 %0;end")
	checkAll(t,
		"func f(i8, i1) i8;b0:;%2 = and i8 %0, 255;%3 = eq i1 %1, %1;br b1;b1:;%4 = phi i8 b0 %2, b1 %5;%5 = xor i8 %4, 0;brif %3, b1, b2;b2:;ret i8 %5;b3:;%6 = add i8 %2, 0;brif %3, b3, b4;b4:;%7 = phi i8 b3 %2;ret i8 %6;end",
		"func f(i8, i1) i8;b0:;br b1;b1:;%4 = phi i8 b0 %0, b1 %4;brif 1, b1, b2;b2:;ret i8 %4;b3:;%6 = add i8 %0, 0;brif 1, b3, b4;b4:;%7 = phi i8 b3 %0;ret i8 %6;end")
}

// P16.1: what isn't reachable stays, though it comes of itself.
func TestUnreachable(t *testing.T) {
	checkSame(t, "func f(i8) i8;b0:;ret i8 %0;b1:;%1 = add i8 1, 2;%2 = and i8 %2, 5;%3 = mul i8 2, %4;%4 = mul i8 %3, 3;br b1;end")
}

// P16.1: the first instruction is done first, blocks in order, whichever makes what the other uses; it is asked again behind each.
func TestOrder(t *testing.T) {
	checkAll(t,
		"func f(i8) i8;b0:;br b1;b1:;%1 = mul i8 %0, 2;br b2;b2:;%2 = mul i8 %1, 3;ret i8 %2;end",
		"func f(i8) i8;b0:;br b1;b1:;%1 = shl i8 %0, 1;br b2;b2:;%2 = mul i8 %1, 3;ret i8 %2;end")
	checkAll(t,
		"func f(i8) i8;b0:;br b2;b1:;%2 = mul i8 %1, 3;ret i8 %2;b2:;%1 = mul i8 %0, 2;br b1;end",
		"func f(i8) i8;b0:;br b2;b1:;%2 = mul i8 %0, 6;ret i8 %2;b2:;%1 = shl i8 %0, 1;br b1;end")
	checkAll(t,
		"func f(i8) i8;b0:;br b3;b1:;%3 = mul i8 %2, 3;ret i8 %3;b2:;%2 = add i8 %1, 0;br b1;b3:;%1 = mul i8 %0, 2;br b2;end",
		"func f(i8) i8;b0:;br b3;b1:;%3 = mul i8 %0, 6;ret i8 %3;b2:;br b1;b3:;%1 = shl i8 %0, 1;br b2;end")
}

// P16.1: what no rule names stays, with all its fields, as do the function's.
func TestFieldsStay(t *testing.T) {
	f := read(t, "global g 8;extern x() i8;func n(i3, ptr) i8;b0:;%2 = alloca 7;%5 = add nsw i3 %0, 1;%6 = trunc i3 %5 to i2;%4 = call x();%9 = lshr exact i8 %4, 1;brif 1, b1, b1;b1:;%8 = phi i8 b0 poison;ret i8 %9;end").Funcs[0]
	if got := comb.All(f); !ir.SameFunc(got, f) {
		t.Error(got)
	}
	if got := comb.All(api.Func{}); !ir.SameFunc(got, api.Func{}) {
		t.Error(got)
	}
}

// P16.2: All goes on to the end in a function as great as can be, of which each instruction asks what the one ahead makes; blocks stand the other way round, too, so that one is turned as often as can be.
func TestGreatestFunction(t *testing.T) {
	// (Of Xors some would come to 0, and go.)
	for _, op := range []int{api.Add, api.Mul, api.And, api.Or} {
		for _, isBackward := range []bool{false, true} {
			f := chain(op, 63, 5, isBackward)
			if code, at := verify.Check(api.Module{Funcs: []api.Func{f}}); code != api.OK || ir.Size(f) < api.MaxCode-25 {
				t.Fatal("not right, or not great:", code, at, ir.Size(f))
			}
			if got := comb.All(f); !ir.SameFunc(got, joined(f)) {
				t.Error(op, isBackward, got)
			}
			few := chain(op, 9, 3, isBackward)
			if !ir.SameFunc(joined(few), allByWords(few, map[int]int{})) {
				t.Error(op, isBackward, few)
			}
		}
	}
}

// P16.3 doesn't follow in one corner, where the chapters' words are held: a call that answers the address of its own Alloca's block answers poison, but one that answers any of two addresses answers any, whichever these are; and rule 1 makes that any the one address.
func TestLostAddress(t *testing.T) {
	m := read(t, "func f() ptr;b0:;%0 = freeze i1 poison;%1 = alloca 1;%2 = select ptr %0, null, %1;ret ptr %2;end")
	is := read(t, "func f() ptr;b0:;%1 = alloca 1;ret ptr %1;end")
	if !ir.Same(combed(m), is) {
		t.Error(combed(m))
	}
	was, by := run.Run(m, 0, nil, nil, 9), run.Run(is, 0, nil, nil, 9)
	if was.Ret != (api.Val{Kind: api.IsAny}) || by.Ret != (api.Val{}) || refine.Refines(was, by) {
		t.Error(was, by)
	}
}
