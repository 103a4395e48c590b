package spell_test

import (
	"math"
	"strconv"
	"strings"
	"testing"

	"lathe/api"
	"lathe/ir"
	"lathe/parse"
	"lathe/spell"
)

var (
	poison = api.Value{Kind: api.Poison}
	null   = api.Value{Kind: api.Null}
	two    = []api.Value{reg(0), number(3)}
)

func checkText(t *testing.T, m api.Module, want string) {
	t.Helper()
	if got := spell.Text(m); got != want || !spell.Sayable(m) {
		t.Errorf("Text(%v) = %q; not %q", m, got, want)
	}
}

func checkUnsayable(t *testing.T, m api.Module) {
	t.Helper()
	if got := spell.Text(m); got != "" || spell.Sayable(m) {
		t.Errorf("sayable: %v, as %q", m, got)
	}
}

// around is a module with something of each kind around an instruction.
func around(in api.Instr) api.Module {
	return api.Module{
		Vars:    []api.Var{{Name: "g", Size: 8}, {Name: "k", Size: 1}},
		Externs: []api.Extern{{Name: "x", Params: []int{8, api.Ptr}, Ret: 5}, {Name: "y"}},
		Funcs: []api.Func{
			{Name: "f", Params: []int{8}, Ret: 8, Blocks: []api.Block{{Code: []api.Instr{in}}}},
			{Name: "h", Ret: api.Ptr},
		},
	}
}

func checkLine(t *testing.T, in api.Instr, want string) {
	t.Helper()
	checkText(t, around(in), "global g 8\nglobal k 1\nextern x(i8, ptr) i5\nextern y() void\nfunc f(i8) i8\nb0:\n  "+want+"\nend\nfunc h() ptr\nend\n")
}

func checkNoLine(t *testing.T, in api.Instr) {
	t.Helper()
	checkUnsayable(t, around(in))
}

// P5.1: the chapter's examples.
func TestExamples(t *testing.T) {
	const text = `global g 8
func f(i8) i8
b0:
  %1 = add nsw i8 %0, 3
  store i8 %1, @g
  ret i8 %1
end
`
	m, fault := parse.Parse("global g 8\nfunc f(i8) i8\nb0:\n%1 = add nsw i8 %0, 3\nstore i8 %1, @g\nret i8 %1\nend")
	if fault != (api.Fault{}) {
		t.Fatal(fault)
	}
	checkText(t, m, text)
	checkLine(t, api.Instr{Op: api.Phi, Reg: 3, Type: 8, Args: []api.Value{reg(1), poison}, To: []int{0, 2}}, "%3 = phi i8 b0 %1, b2 poison")
	checkLine(t, api.Instr{Op: api.Zext, Reg: 4, Type: 64, N: 8, Args: []api.Value{reg(3)}}, "%4 = zext i8 %3 to i64")
	checkLine(t, api.Instr{Op: api.Call, Reg: -1, Type: 8}, "call f()")
	checkText(t, api.Module{}, "")
}

// P5.1: each row of chapter 4's table, and each word of a row.
func TestRows(t *testing.T) {
	for i, word := range strings.Fields("add sub mul udiv sdiv urem srem and or xor shl lshr ashr") {
		for flags, words := range []string{"", "nsw ", "nuw ", "nsw nuw ", "exact ", "nsw exact ", "nuw exact ", "nsw nuw exact "} {
			checkLine(t, api.Instr{Op: api.Add + i, Reg: 9, Type: 8, Flags: flags, Args: two}, "%9 = "+word+" "+words+"i8 %0, 3")
		}
	}
	for i, word := range strings.Fields("eq ne ult ule slt sle") {
		checkLine(t, api.Instr{Op: api.Eq + i, Reg: 0, Args: two}, "%0 = "+word+" void %0, 3")
	}
	for i, word := range strings.Fields("zext sext trunc") {
		checkLine(t, api.Instr{Op: api.Zext + i, Reg: 9, N: 65, Type: 1, Args: two[:1]}, "%9 = "+word+" ptr %0 to i1")
	}
	checkLine(t, api.Instr{Op: api.Select, Reg: 9, Type: 8, Args: append(two[:2:2], poison)}, "%9 = select i8 %0, 3, poison")
	checkLine(t, api.Instr{Op: api.Freeze, Reg: 9, Type: 8, Args: two[1:]}, "%9 = freeze i8 3")
	checkLine(t, api.Instr{Op: api.Phi, Reg: 9, Type: 8}, "%9 = phi i8")
	checkLine(t, api.Instr{Op: api.Phi, Reg: 9, Type: 8, Args: two[:1], To: []int{999}}, "%9 = phi i8 b999 %0")
	checkLine(t, api.Instr{Op: api.Alloca, Reg: 9, Type: api.Ptr}, "%9 = alloca 0")
	checkLine(t, api.Instr{Op: api.Alloca, Reg: 9, Type: api.Ptr, N: math.MaxInt}, "%9 = alloca "+strconv.Itoa(math.MaxInt))
	checkLine(t, api.Instr{Op: api.Load, Reg: 9, Type: 8, Args: two[:1]}, "%9 = load i8 %0")
	checkLine(t, api.Instr{Op: api.Store, Reg: -1, Type: 8, Args: two}, "store i8 %0, 3")
	checkLine(t, api.Instr{Op: api.Gep, Reg: 9, Type: api.Ptr, Args: two}, "%9 = gep %0, 3")
	checkLine(t, api.Instr{Op: api.Call, Reg: 9, Type: 5, N: -1, Args: two}, "%9 = call x(%0, 3)")
	checkLine(t, api.Instr{Op: api.Call, Reg: -1, N: -2, Args: two[1:]}, "call y(3)")
	checkLine(t, api.Instr{Op: api.Call, Reg: -1, Type: api.Ptr, N: 1}, "call h()")
	checkLine(t, api.Instr{Op: api.Br, Reg: -1, To: []int{12}}, "br b12")
	checkLine(t, api.Instr{Op: api.Brif, Reg: -1, Args: two[:1], To: []int{1, 0}}, "brif %0, b1, b0")
	checkLine(t, api.Instr{Op: api.Ret, Reg: -1}, "ret")
	checkLine(t, api.Instr{Op: api.Ret, Reg: -1, Args: two[1:]}, "ret void 3")
	checkLine(t, api.Instr{Op: api.Ret, Reg: -1, Type: 8, Args: two[1:]}, "ret i8 3")
	checkLine(t, api.Instr{Op: api.Halt, Reg: -1}, "halt")
}

// P5.1: an operation that no row has.
func TestNoRow(t *testing.T) {
	for _, op := range []int{math.MinInt, -1, 0, 35, 36, 256 + api.Add, math.MaxInt} {
		for args := range 3 {
			checkNoLine(t, api.Instr{Op: op, Reg: 9, Type: 8, Args: two[:args]})
			checkNoLine(t, api.Instr{Op: op, Reg: -1, Args: two[:args]})
		}
	}
}

// P5.1: each kind of operand, at its edges and beyond.
func TestOperands(t *testing.T) {
	freeze := func(v api.Value) api.Instr {
		return api.Instr{Op: api.Freeze, Reg: 4095, Type: 8, Args: []api.Value{v}}
	}
	for word, v := range map[string]api.Value{
		"%0": reg(0), "%4095": reg(4095), "0": number(0), "18446744073709551615": number(math.MaxUint64),
		"poison": poison, "null": null, "@g": global(0), "@k": global(1),
	} {
		checkLine(t, freeze(v), "%4095 = freeze i8 "+word)
	}
	for _, v := range []api.Value{
		{}, {Kind: -1}, {Kind: 6}, {Kind: 256 + api.Null},
		reg(-1), reg(4096), {Kind: api.Reg, Bits: 1}, {Kind: api.Const, N: 1}, {Kind: api.Const, N: -1, Bits: 7},
		{Kind: api.Poison, N: 1}, {Kind: api.Poison, Bits: 1}, {Kind: api.Null, N: 1}, {Kind: api.Null, Bits: 1},
		global(-1), global(2), {Kind: api.Global, N: 1, Bits: 1},
	} {
		checkNoLine(t, freeze(v))
		checkNoLine(t, api.Instr{Op: api.Call, Reg: -1, Type: 8, Args: []api.Value{reg(0), null, v}})
	}
}

// P5.1: Reg, where the form has a register, where it hasn't, and of a call.
func TestRegisters(t *testing.T) {
	for _, reg := range []int{-2, 4096, math.MinInt, math.MaxInt} {
		checkNoLine(t, api.Instr{Op: api.Phi, Reg: reg, Type: 8})
		checkNoLine(t, api.Instr{Op: api.Call, Reg: reg, Type: 8})
		checkNoLine(t, api.Instr{Op: api.Halt, Reg: reg})
	}
	for _, reg := range []int{0, 4095} {
		word := "%" + strconv.Itoa(reg) + " = "
		checkLine(t, api.Instr{Op: api.Phi, Reg: reg, Type: 8}, word+"phi i8")
		checkLine(t, api.Instr{Op: api.Call, Reg: reg, Type: 8}, word+"call f()")
		checkNoLine(t, api.Instr{Op: api.Halt, Reg: reg})
		checkNoLine(t, api.Instr{Op: api.Ret, Reg: reg})
		checkNoLine(t, api.Instr{Op: api.Br, Reg: reg, To: []int{0}})
		checkNoLine(t, api.Instr{Op: api.Store, Reg: reg, Type: 8, Args: two})
	}
	checkNoLine(t, api.Instr{Op: api.Phi, Reg: -1, Type: 8})
	checkNoLine(t, api.Instr{Op: api.Gep, Reg: -1, Type: api.Ptr, Args: two})
}

// P5.1: Type, N and Flags, free or fixed by the row.
func TestFields(t *testing.T) {
	for _, bad := range []int{-1, 66, math.MinInt, math.MaxInt} {
		checkNoLine(t, api.Instr{Op: api.Add, Reg: 9, Type: bad, Args: two})
		checkNoLine(t, api.Instr{Op: api.Store, Reg: -1, Type: bad, Args: two})
		checkNoLine(t, api.Instr{Op: api.Ret, Reg: -1, Type: bad, Args: two[:1]})
		checkNoLine(t, api.Instr{Op: api.Sext, Reg: 9, Type: bad, N: 8, Args: two[:1]})
		checkNoLine(t, api.Instr{Op: api.Sext, Reg: 9, Type: 8, N: bad, Args: two[:1]})
	}
	for _, bad := range []int{0, 8, 64, 66} {
		checkNoLine(t, api.Instr{Op: api.Alloca, Reg: 9, Type: bad, N: 8})
		checkNoLine(t, api.Instr{Op: api.Gep, Reg: 9, Type: bad, Args: two})
	}
	checkNoLine(t, api.Instr{Op: api.Halt, Reg: -1, Type: 8})
	checkNoLine(t, api.Instr{Op: api.Br, Reg: -1, Type: 8, To: []int{0}})
	checkNoLine(t, api.Instr{Op: api.Brif, Reg: -1, Type: 1, Args: two[:1], To: []int{0, 1}})
	checkNoLine(t, api.Instr{Op: api.Ret, Reg: -1, Type: 8})
	checkNoLine(t, api.Instr{Op: api.Alloca, Reg: 9, Type: api.Ptr, N: -1})
	checkNoLine(t, api.Instr{Op: api.Load, Reg: 9, Type: 8, N: 1, Args: two[:1]})
	checkNoLine(t, api.Instr{Op: api.Ret, Reg: -1, N: -1})
	for _, bad := range []int{-1, 8, 1 << 32, math.MinInt, math.MaxInt} {
		checkNoLine(t, api.Instr{Op: api.Ashr, Reg: 9, Type: 8, Flags: bad, Args: two})
	}
	for _, flags := range []int{api.Nsw, api.Nuw, api.Exact, 7, -1} {
		checkNoLine(t, api.Instr{Op: api.Eq, Reg: 9, Type: 8, Flags: flags, Args: two})
		checkNoLine(t, api.Instr{Op: api.Halt, Reg: -1, Flags: flags})
	}
}

// P5.1: a call calls something, and has the type of its answer.
func TestCalls(t *testing.T) {
	for n, ret := range map[int]int{0: 8, 1: api.Ptr, -1: 5, -2: 0} {
		for _, bad := range []int{-1, 0, 1, 5, 8, api.Ptr} {
			if bad != ret {
				checkNoLine(t, api.Instr{Op: api.Call, Reg: 9, Type: bad, N: n})
			}
		}
	}
	for _, n := range []int{2, 3, -3, -4, math.MinInt, math.MaxInt} {
		for _, ret := range []int{0, 8} {
			checkNoLine(t, api.Instr{Op: api.Call, Reg: 9, Type: ret, N: n})
		}
	}
	many := make([]api.Value, 20)
	for i := range many {
		many[i] = null
	}
	checkLine(t, api.Instr{Op: api.Call, Reg: -1, Type: 8, Args: many}, "call f(null"+strings.Repeat(", null", 19)+")")
}

// P5.1: how many operands and blocks a row has; blocks' words have three digits at most.
func TestLists(t *testing.T) {
	for op := api.Add; op <= api.Halt; op++ {
		in := api.Instr{Op: op, Reg: 9, Type: api.Ptr}
		if !ir.Idle(op) {
			in.Reg = -1
		}
		if op == api.Br || op == api.Brif || op == api.Halt {
			in.Type = 0
		}
		for args := range 5 {
			for to := range 4 {
				in.Args, in.To = make([]api.Value, args), make([]int, to)
				for i := range in.Args {
					in.Args[i] = null
				}
				if in.N = 0; op == api.Call {
					in.N = 1
				}
				if has := hasLists(op, args, to); spell.Sayable(around(in)) != has {
					t.Error("operation", op, "with", args, to, "is sayable:", !has)
				}
			}
		}
	}
	for _, bad := range []int{-1, 1000, math.MinInt, math.MaxInt} {
		checkNoLine(t, api.Instr{Op: api.Br, Reg: -1, To: []int{bad}})
		checkNoLine(t, api.Instr{Op: api.Brif, Reg: -1, Args: two[:1], To: []int{0, bad}})
		checkNoLine(t, api.Instr{Op: api.Phi, Reg: 9, Type: 8, Args: two, To: []int{0, bad}})
	}
	checkLine(t, api.Instr{Op: api.Br, Reg: -1, To: []int{999}}, "br b999")
}

// hasLists is what the chapters tell of an operation of type ptr, where it has a type.
func hasLists(op, args, to int) bool {
	switch op {
	case api.Phi:
		return args == to
	case api.Call:
		return to == 0
	case api.Br:
		return args == 0 && to == 1
	case api.Brif:
		return args == 1 && to == 2
	case api.Select:
		return args == 3 && to == 0
	case api.Alloca, api.Halt:
		return args == 0 && to == 0
	case api.Zext, api.Sext, api.Trunc, api.Freeze, api.Load, api.Ret:
		return args == 1 && to == 0
	}
	return args == 2 && to == 0
}

// P5.1: names, sizes, Params and Ret.
func TestHeads(t *testing.T) {
	for _, bad := range []string{"", "9", "A", "a b", "é", "@a", "a\n", "("} {
		checkUnsayable(t, api.Module{Vars: []api.Var{{Name: bad, Size: 1}}})
		checkUnsayable(t, api.Module{Externs: []api.Extern{{Name: bad}}})
		checkUnsayable(t, api.Module{Funcs: []api.Func{{Name: bad}}})
	}
	for _, size := range []int{0, 1, 64, 65, math.MaxInt} {
		checkText(t, api.Module{Vars: []api.Var{{Name: "g", Size: size}}}, "global g "+strconv.Itoa(size)+"\n")
	}
	for _, size := range []int{-1, math.MinInt} {
		checkUnsayable(t, api.Module{Vars: []api.Var{{Name: "g", Size: size}}})
	}
	for _, bad := range []int{-1, 66, math.MinInt, math.MaxInt} {
		checkUnsayable(t, api.Module{Externs: []api.Extern{{Name: "x", Ret: bad}}})
		checkUnsayable(t, api.Module{Externs: []api.Extern{{Name: "x", Params: []int{8, bad}}}})
		checkUnsayable(t, api.Module{Funcs: []api.Func{{Name: "f", Ret: bad}}})
		checkUnsayable(t, api.Module{Funcs: []api.Func{{Name: "f", Params: []int{8, bad}}}})
	}
	types := []int{0, 1, 64, 65}
	checkText(t, api.Module{Externs: []api.Extern{{Name: "x", Params: types, Ret: 64}}}, "extern x(void, i1, i64, ptr) i64\n")
	checkText(t, api.Module{Funcs: []api.Func{{Name: "end", Params: types}}}, "func end(void, i1, i64, ptr) void\nend\n")
}

// P5.1: a sayable module has a text, also where chapter 4 doesn't read it.
func TestUnreadable(t *testing.T) {
	halt := api.Instr{Op: api.Halt, Reg: -1}
	many := api.Func{Name: "f", Blocks: make([]api.Block, 1002)}
	var text strings.Builder
	for i := range many.Blocks {
		text.WriteString("b" + strconv.Itoa(i) + ":\n")
	}
	many.Blocks[1001].Code = []api.Instr{halt}
	long := strings.Repeat("z", api.MaxText)
	full := api.Func{Name: "f", Blocks: []api.Block{{Code: make([]api.Instr, 401)}}}
	for i := range full.Blocks[0].Code {
		full.Blocks[0].Code[i] = halt
	}
	for want, m := range map[string]api.Module{
		"global g 1\nglobal g 2\n": {Vars: []api.Var{{Name: "g", Size: 1}, {Name: "g", Size: 2}}},
		"extern f() i1\nfunc f() i2\nb0:\n  call f()\n  call f()\nend\n": {
			Externs: []api.Extern{{Name: "f", Ret: 1}},
			Funcs:   []api.Func{{Name: "f", Ret: 2, Blocks: []api.Block{{Code: []api.Instr{{Op: api.Call, Reg: -1, Type: 2}, {Op: api.Call, Reg: -1, Type: 1, N: -1}}}}}},
		},
		"extern x(" + strings.Repeat("i8, ", 8) + "i8) i8\n":               {Externs: []api.Extern{{Name: "x", Params: []int{8, 8, 8, 8, 8, 8, 8, 8, 8}, Ret: 8}}},
		"func f() void\n" + text.String() + "  halt\nend\n":                {Funcs: []api.Func{many}},
		"func f() void\nb0:\n" + strings.Repeat("  halt\n", 401) + "end\n": {Funcs: []api.Func{full}},
		"global " + long + " 1\n":                                          {Vars: []api.Var{{Name: long, Size: 1}}},
		"func f() void\nend\n":                                             {Funcs: []api.Func{{Name: "f"}}},
	} {
		checkText(t, m, want)
		if _, fault := parse.Parse(want); fault == (api.Fault{}) {
			t.Errorf("%.60q is read", want)
		}
	}
}

// P5.1: the order of the lines, and that each block has its number.
func TestWhole(t *testing.T) {
	ret := []api.Instr{{Op: api.Ret, Reg: -1}}
	checkText(t, api.Module{
		Vars:    []api.Var{{Name: "b", Size: 2}, {Name: "a", Size: 1}},
		Externs: []api.Extern{{Name: "y"}, {Name: "x", Params: []int{1}}},
		Funcs: []api.Func{
			{Name: "g", Blocks: []api.Block{{}, {Code: append(ret, ret...)}, {}}},
			{Name: "f", Params: []int{8, 8}, Blocks: []api.Block{{Code: ret}}},
		},
	}, "global b 2\nglobal a 1\nextern y() void\nextern x(i1) void\nfunc g() void\nb0:\nb1:\n  ret\n  ret\nb2:\nend\nfunc f(i8, i8) void\nb0:\n  ret\nend\n")
}

// P5.1: the words of types.
func TestTypes(t *testing.T) {
	for n, want := range map[int]string{
		0: "void", 1: "i1", 8: "i8", 9: "i9", 10: "i10", 63: "i63", 64: "i64", 65: "ptr",
		-1: "", 66: "", 256: "", 1<<32 + 8: "", math.MinInt: "", math.MaxInt: "",
	} {
		if got := spell.Type(n); got != want {
			t.Errorf("Type(%d) = %q; not %q", n, got, want)
		}
	}
	for n := 1; n <= 64; n++ {
		if got, want := spell.Type(n), "i"+strconv.Itoa(n); got != want {
			t.Errorf("Type(%d) = %q; not %q", n, got, want)
		}
	}
}
