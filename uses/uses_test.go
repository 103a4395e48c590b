package uses_test

import (
	"slices"
	"testing"

	"lathe/api"
	"lathe/ir"
	"lathe/samples"
	"lathe/spell"
	"lathe/uses"
)

func read(t *testing.T, text string) api.Module {
	t.Helper()
	m, ok := samples.Read(text)
	if !ok {
		t.Fatal("not right:", text)
	}
	return m
}

// checkClean cleans a program's functions, and holds its text against the one that is told.
func checkClean(t *testing.T, text, want string) {
	t.Helper()
	m := read(t, text)
	for n, f := range m.Funcs {
		m.Funcs[n] = uses.Clean(f)
	}
	if got := spell.Text(m); got != spell.Text(read(t, want)) {
		t.Errorf("Clean of\n%s\nis\n%s", text, got)
	}
}

// checkNeeded asks what is needed of a function of any data, a text for each block: x where it is, - where it isn't.
func checkNeeded(t *testing.T, f api.Func, want ...string) {
	t.Helper()
	var got []string
	for _, block := range uses.Needed(f) {
		marks := ""
		for _, is := range block {
			marks += map[bool]string{true: "x", false: "-"}[is]
		}
		got = append(got, marks)
	}
	if !slices.Equal(got, want) {
		t.Errorf("of %v are needed %v, not %v", f, got, want)
	}
}

func function(blocks ...[]api.Instr) api.Func {
	f := api.Func{Name: "f", Params: []int{8}}
	for _, code := range blocks {
		f.Blocks = append(f.Blocks, api.Block{Code: code})
	}
	return f
}

func makes(op, reg int, args ...api.Value) api.Instr {
	return api.Instr{Op: op, Reg: reg, Type: 8, Args: args}
}

func reg(n int) api.Value { return api.Value{Kind: api.Reg, N: n} }

// The chapter's examples.
func TestExamples(t *testing.T) {
	checkClean(t,
		"global g 1;func f(i8) i8;b0:;%1 = add i8 %0, 1;%2 = mul i8 %1, 2;store i8 %1, @g;ret i8 %0;end",
		"global g 1;func f(i8) i8;b0:;%1 = add i8 %0, 1;store i8 %1, @g;ret i8 %0;end")
	checkClean(t,
		"func f(i1) void;b0:;br b1;b1:;%1 = phi i8 b0 0, b1 %2;%2 = add i8 %1, 1;brif %0, b1, b2;b2:;ret;end",
		"func f(i1) void;b0:;br b1;b1:;brif %0, b1, b2;b2:;ret;end")
	checkClean(t,
		"func f() void;b0:;%3 = udiv i8 1, 0;ret;end",
		"func f() void;b0:;ret;end")
	text := "extern x() i8;func f() i8;b0:;%0 = call x();%1 = call x();ret i8 %1;end"
	checkClean(t, text, text)
	checkNeeded(t, read(t, "global g 1;func f(i8) i8;b0:;%1 = add i8 %0, 1;%2 = mul i8 %1, 2;store i8 %1, @g;ret i8 %0;end").Funcs[0], "x-xx")
}

// P14.1: what is needed is needed over many steps, through Phis, and from blocks behind; what only needs it goes.
func TestNeededFrom(t *testing.T) {
	text := "func f(i8, i1) i8;b0:;%2 = add i8 %0, 1;brif %1, b1, b2;b1:;%3 = mul i8 %2, %2;br b3;b2:;br b3;b3:;%4 = phi i8 b1 %3, b2 9;%5 = xor i8 %4, 1;ret i8 %5;end"
	checkClean(t, text, text)
	checkClean(t,
		"func f(i8, i1) i8;b0:;%2 = add i8 %0, 1;%6 = alloca 4;brif %1, b1, b2;b1:;%3 = mul i8 %2, %2;br b3;b2:;%7 = load i8 %6;br b3;b3:;%4 = phi i8 b1 %3, b2 %7;%5 = xor i8 %4, 1;ret i8 %2;end",
		"func f(i8, i1) i8;b0:;%2 = add i8 %0, 1;brif %1, b1, b2;b1:;br b3;b2:;br b3;b3:;ret i8 %2;end")
	// A round of Phis, of which a ret needs one, and so all.
	text = "func f(i1) i8;b0:;br b1;b1:;%1 = phi i8 b0 0, b1 %2;%2 = phi i8 b0 1, b1 %3;%3 = phi i8 b0 2, b1 %1;brif %0, b1, b2;b2:;ret i8 %1;end"
	checkClean(t, text, text)
}

// P14.1: Stores, Calls and ends stay, and what they ask for; a Load, an Alloca and a division go, if nobody uses them.
func TestWhoStays(t *testing.T) {
	checkClean(t,
		"global g 8;extern x(i8) void;func f(i1) void;b0:;%1 = alloca 1;%2 = alloca 1;%3 = gep %1, 0;%4 = gep %2, 0;store i8 3, %3;%5 = load i8 %3;%6 = load i8 null;%7 = srem i8 %5, 0;%8 = load i8 @g;call x(%8);%9 = freeze i1 %0;brif %9, b1, b2;b1:;halt;b2:;ret;b3:;%10 = add i8 1, 2;ret;end",
		"global g 8;extern x(i8) void;func f(i1) void;b0:;%1 = alloca 1;%3 = gep %1, 0;store i8 3, %3;%8 = load i8 @g;call x(%8);%9 = freeze i1 %0;brif %9, b1, b2;b1:;halt;b2:;ret;b3:;ret;end")
}

// P14.1: every function: all that make the register that is used are needed, also one that makes an argument's, or the register -1.
func TestMadeTwice(t *testing.T) {
	checkNeeded(t, function(
		[]api.Instr{makes(api.Add, 5), makes(api.Add, 0), makes(api.Add, 6)},
		[]api.Instr{makes(api.Ret, -1, reg(5), reg(0)), makes(api.Mul, 5, reg(7)), makes(api.Phi, 7)},
	), "xx-", "xxx")
	checkNeeded(t, function([]api.Instr{makes(api.Add, -1), makes(api.Add, -2), makes(api.Store, -1, reg(-1))}), "x-x")
	checkNeeded(t, function([]api.Instr{makes(api.Call, 4, reg(4)), makes(api.Add, 4)}), "xx")
}

// P14.1: every function: what makes nothing isn't needed by anyone, though a Reg is named; an operand of another kind is no use; an Op that isn't in the table is needed, and needs.
func TestAnyData(t *testing.T) {
	void := api.Instr{Op: api.Add, Reg: 3, Args: []api.Value{reg(4)}}
	checkNeeded(t, function([]api.Instr{void, makes(api.Mul, 4), makes(api.Ret, -1, reg(3))}), "--x")
	other := api.Value{Kind: api.Const, N: 4}
	checkNeeded(t, function([]api.Instr{makes(api.Mul, 4), makes(api.Ret, -1, other, api.Value{Kind: api.Global, N: 4}, api.Value{Kind: 9, N: 4}, api.Value{N: 4})}), "-x")
	checkNeeded(t, function([]api.Instr{makes(api.Mul, 4), makes(99, 5, reg(4)), makes(-1, 5), makes(0, 5, reg(5))}), "xxxx")
	// Fields of an operand that a register hasn't don't matter.
	checkNeeded(t, function([]api.Instr{makes(api.Mul, 4), makes(api.Ret, -1, api.Value{Kind: api.Reg, N: 4, Bits: 7})}), "xx")
	checkNeeded(t, api.Func{})
	checkNeeded(t, function(nil, []api.Instr{makes(api.Load, 1)}, nil), "", "-", "")
}

// P14.1: of what stays all fields stay.
func TestFieldsStay(t *testing.T) {
	f := api.Func{Name: "n", Params: []int{3, 9}, Ret: -7, Blocks: []api.Block{
		{Code: []api.Instr{{Op: api.Call, Reg: -9, Type: 77, N: 5, Flags: 6, Args: []api.Value{{Kind: 8, N: 1, Bits: 2}}, To: []int{4, 4}}, makes(api.Add, 5)}},
		{Code: []api.Instr{makes(api.Add, 5)}},
	}}
	want := ir.CopyFunc(f)
	want.Blocks[0].Code, want.Blocks[1].Code = want.Blocks[0].Code[:1], nil
	if got := uses.Clean(f); !ir.SameFunc(got, want) {
		t.Error(got)
	}
}
