package fold_test

import (
	"testing"

	"lathe/api"
	"lathe/fold"
	"lathe/ir"
	"lathe/refine"
	"lathe/run"
	"lathe/samples"
	"lathe/spell"
)

func read(t *testing.T, text string) api.Module {
	t.Helper()
	m, ok := samples.Read(text)
	if !ok {
		t.Fatal("not right:", text)
	}
	return m
}

// folded is a module with all its functions folded.
func folded(m api.Module) api.Module {
	m = ir.Copy(m)
	for n, f := range m.Funcs {
		m.Funcs[n] = fold.All(f)
	}
	return m
}

// checkAll folds a program's functions, and holds its text against the one that is told.
func checkAll(t *testing.T, text, want string) {
	t.Helper()
	if got := spell.Text(folded(read(t, text))); got != spell.Text(read(t, want)) {
		t.Errorf("All of\n%s\nis\n%s", text, got)
	}
}

// checkSame asks that a program stays.
func checkSame(t *testing.T, text string) {
	t.Helper()
	checkAll(t, text, text)
}

// P15.1: one folds behind the other, in a block and over blocks; what nobody uses folds too.
func TestAll(t *testing.T) {
	checkAll(t,
		"func f() i8;b0:;%0 = add i8 200, 100;%1 = mul i8 %0, %0;%2 = xor i8 %1, %0;%3 = add i8 1, 1;ret i8 %2;end",
		"func f() i8;b0:;ret i8 188;end")
	checkAll(t,
		"func f(i8) i8;b0:;%1 = add i8 1, 2;%2 = add i8 %1, %0;%3 = mul i8 %1, 4;br b1;b1:;%4 = sub i8 %2, %3;ret i8 %4;end",
		"func f(i8) i8;b0:;%2 = add i8 3, %0;br b1;b1:;%4 = sub i8 %2, 12;ret i8 %4;end")
	checkAll(t,
		"func f() ptr;b0:;%0 = freeze ptr poison;%1 = eq ptr %0, null;%2 = freeze i1 poison;%3 = select ptr %2, null, %0;brif %1, b1, b2;b1:;ret ptr %3;b2:;ret ptr %0;end",
		"func f() ptr;b0:;brif 1, b1, b2;b1:;ret ptr null;b2:;ret ptr null;end")
	checkSame(t, "func f(i8) i8;b0:;%1 = add i8 %0, 1;%2 = and i8 0, %1;%3 = sub i8 %2, %2;ret i8 %3;end")
}

// P15.1: every use becomes the literal, of whatever instruction.
func TestEveryUse(t *testing.T) {
	checkAll(t,
		"global g 8;extern x(i8, i8) i8;func f(i8) i8;b0:;%1 = or i8 5, 2;%2 = gep @g, 0;store i8 %1, %2;%3 = call x(%1, %1);%4 = udiv i8 %1, %1;%5 = load i8 %2;%6 = zext i8 %1 to i64;%7 = gep @g, %6;%8 = call f(%1);store ptr %2, @g;%9 = select i8 1, %0, %1;ret i8 %1;end",
		"global g 8;extern x(i8, i8) i8;func f(i8) i8;b0:;store i8 7, @g;%3 = call x(7, 7);%4 = udiv i8 7, 7;%5 = load i8 @g;%7 = gep @g, 7;%8 = call f(7);store ptr @g, @g;%9 = select i8 1, %0, 7;ret i8 7;end")
	checkAll(t,
		"func f() i1;b0:;%0 = ult i8 1, 2;brif %0, b1, b2;b1:;ret i1 %0;b2:;ret i1 %0;end",
		"func f() i1;b0:;brif 1, b1, b2;b1:;ret i1 1;b2:;ret i1 1;end")
	checkAll(t,
		"func f() i8;b0:;%0 = add nuw i8 255, 1;%1 = add i8 %0, 1;ret i8 %1;end",
		"func f() i8;b0:;ret i8 poison;end")
}

// P15.1: Phis get literals, and stay, be they all literals and the same.
func TestPhis(t *testing.T) {
	checkAll(t,
		"func f(i1) i8;b0:;%2 = add i8 4, 5;br b1;b1:;%1 = phi i8 b0 %2, b1 %3;%3 = mul i8 3, 3;brif %0, b1, b2;b2:;%4 = add i8 %1, %3;ret i8 %4;end",
		"func f(i1) i8;b0:;br b1;b1:;%1 = phi i8 b0 9, b1 9;brif %0, b1, b2;b2:;%4 = add i8 %1, 9;ret i8 %4;end")
}

// P15.1: blocks whose order is another one than that in which they are gone through, and such as aren't reachable.
func TestOtherBlocks(t *testing.T) {
	checkAll(t,
		"func f() i8;b0:;br b3;b1:;%2 = add i8 %1, %0;ret i8 %2;b2:;%1 = sub i8 %0, 1;br b1;b3:;%0 = or i8 2, 4;br b2;end",
		"func f() i8;b0:;br b3;b1:;ret i8 11;b2:;br b1;b3:;br b2;end")
	checkAll(t,
		"func f() i8;b0:;ret i8 0;b1:;%0 = add i8 %1, 1;%1 = add i8 %2, %2;%2 = add i8 1, 1;ret i8 %0;b2:;%3 = add i8 %3, 1;%4 = add i8 %5, 1;%5 = sub i8 %4, 1;ret i8 %5;end",
		"func f() i8;b0:;ret i8 0;b1:;ret i8 5;b2:;%3 = add i8 %3, 1;%4 = add i8 %5, 1;%5 = sub i8 %4, 1;ret i8 %5;end")
}

// P15.1: what doesn't fold stays with all its fields, as do the function's.
func TestFieldsStay(t *testing.T) {
	f := read(t, "global g 8;extern x() i8;func n(i3, ptr) i8;b0:;%2 = alloca 7;%5 = add nsw i3 %0, 1;%6 = trunc i3 %5 to i2;%4 = call x();%9 = lshr exact i8 %4, 1;brif 1, b1, b1;b1:;%8 = phi i8 b0 poison;ret i8 %9;end").Funcs[0]
	if got := fold.All(f); !ir.SameFunc(got, f) {
		t.Error(got)
	}
	if got := fold.All(api.Func{}); !ir.SameFunc(got, api.Func{}) {
		t.Error(got)
	}
}

// P15.3 doesn't follow in one corner, where the chapters' words are held: a call that answers the address of its own Alloca's block answers poison, but one that answers any of two addresses answers any, whichever these are; and Fold makes that any the one address.
func TestLostAddress(t *testing.T) {
	m := read(t, "func f() ptr;b0:;%0 = freeze i1 poison;%1 = alloca 1;%2 = select ptr %0, null, %1;ret ptr %2;end")
	is := read(t, "func f() ptr;b0:;%1 = alloca 1;%2 = select ptr 0, null, %1;ret ptr %2;end")
	if !ir.Same(folded(m), is) {
		t.Error(folded(m))
	}
	was, by := run.Run(m, 0, nil, nil, 9), run.Run(is, 0, nil, nil, 9)
	if was.Ret != (api.Val{Kind: api.IsAny}) || by.Ret != (api.Val{}) || refine.Refines(was, by) {
		t.Error(was, by)
	}
}
