package verify_test

import (
	"math"
	"slices"
	"strings"
	"testing"

	"lathe/api"
)

// around is a program in which %0 to %5 are of the types i1, i8, i16, i64, ptr and i8, in which some code stands in block 1 at place 1.
func around(code string) string {
	return "global g 8;extern x(i8, i16) i8;extern y() void;func f(i1, i8, i16, i64, ptr, i8) i8;b0:;br b1;b1:;%6 = freeze i8 %1;" + code + ";br b2;b2:;%4095 = freeze i8 1;ret i8 %1;end;func v() void;b0:;ret;end;func p(ptr) ptr;b0:;ret ptr %0;end"
}

// rightCode are instructions that may stand there, each kind at least once.
var rightCode = strings.Split(strings.TrimSpace(`
%9 = add i8 %1, %5
%9 = sub nsw nuw i8 %1, 255
%9 = mul nuw i64 18446744073709551615, %3
%9 = udiv exact i16 %2, 65535
%9 = sdiv exact i1 %0, 1
%9 = urem i8 %6, poison
%9 = srem i8 %1, %1
%9 = and i8 %1, 0
%9 = or i8 0, 0
%9 = xor i1 %0, 0
%9 = shl nsw i63 9223372036854775807, 0
%9 = lshr exact i8 %1, 2
%9 = ashr exact i8 %1, 2
%9 = eq i8 %1, %5
%9 = eq ptr %4, @g
%9 = ne ptr null, poison
%9 = ne i64 %3, 0
%9 = ult i64 %3, 0
%9 = ule i1 %0, 0
%9 = slt i8 %1, 255
%9 = sle i16 %2, 65535
%9 = zext i8 %1 to i16
%9 = zext i1 %0 to i64
%9 = sext i16 %2 to i17
%9 = trunc i64 %3 to i63
%9 = trunc i16 %2 to i1
%9 = select i8 %0, %1, %5
%9 = select ptr 1, %4, null
%9 = freeze ptr @g
%9 = freeze i1 poison
%9 = load i8 %4
%9 = load ptr null
store i8 %1, %4
store ptr %4, @g
%9 = gep %4, %3
%9 = gep @g, 18446744073709551615
%9 = call x(%1, %2)
call y()
call v()
%9 = call p(%4)
%9 = call f(%0, 255, 65535, %3, null, poison)
`), "\n")

// P8.1: instructions that are right; more of them, in block 0, at a block's front, at an end.
func TestRightCode(t *testing.T) {
	for _, code := range rightCode {
		checkRight(t, around(code))
	}
	for _, text := range []string{
		"func f() void;b0:;%0 = alloca 1;%1 = alloca 64;ret;end",
		"func f() ptr;b0:;br b1;b1:;%0 = phi i1 b0 1;%1 = phi ptr b0 null;ret ptr %1;end",
		"func f(i1) i64;b0:;brif %0, b1, b2;b1:;halt;b2:;ret i64 18446744073709551615;end",
		"func f() void;b0:;ret;b1:;%0 = phi ptr;halt;end",
		"func f() void;b0:;brif poison, b1, b1;b1:;%0 = phi ptr b0 poison;halt;end",
	} {
		checkRight(t, text)
	}
}

// checkChanged checks what becomes of an instruction at 0, 1, 1, when something is done to it that no text tells.
func checkChanged(t *testing.T, code string, want api.Errno, change func(in *api.Instr)) {
	t.Helper()
	m := changed(t, around(code), func(m *api.Module) { change(instr(m, 1, 1)) })
	if want == api.OK {
		check(t, m, api.OK, api.Place{})
		return
	}
	check(t, m, want, at(0, 1, 1))
}

func isWord(code string, all ...string) bool {
	return slices.Contains(all, strings.Fields(code[strings.Index(code, "=")+1:])[0])
}

var wildOps = []int{math.MinInt, -1, 0, 35, 36, math.MaxInt}

// P8.1, 3.3: the Op, how many operands and blocks, N and Reg.
func TestForms(t *testing.T) {
	for _, code := range rightCode {
		for _, op := range wildOps {
			checkChanged(t, code, api.ErrForm, func(in *api.Instr) { in.Op = op })
			// Of what is no operation nothing else is asked: it makes nothing.
			checkChanged(t, code, api.ErrForm, func(in *api.Instr) { *in = api.Instr{Op: op, Reg: -1, Flags: 8} })
		}
		isCall := isWord(code, "call")
		want := api.ErrForm
		if isCall {
			want = api.ErrArgs
		}
		checkChanged(t, code, want, func(in *api.Instr) { in.Args = append(in.Args, api.Value{Kind: api.Poison}) })
		if !strings.Contains(code, "()") {
			checkChanged(t, code, want, func(in *api.Instr) { in.Args = in.Args[1:] })
		}
		checkChanged(t, code, api.ErrForm, func(in *api.Instr) { in.To = []int{1} })
		if strings.HasPrefix(code, "%") {
			checkChanged(t, code, api.ErrForm, func(in *api.Instr) { in.Reg = -1 })
		} else {
			for _, reg := range []int{math.MinInt, -2, 0, 9, 4096} {
				checkChanged(t, code, api.ErrForm, func(in *api.Instr) { in.Reg = reg })
			}
		}
		if isCall || isWord(code, "zext", "sext", "trunc") {
			continue
		}
		for _, n := range []int{math.MinInt, -1, 1, 8, math.MaxInt} {
			checkChanged(t, code, api.ErrForm, func(in *api.Instr) { in.N, in.Flags = n, 8 })
		}
	}
}

// P8.1, 3.3: flags that an operation may have, and others; asked behind forms, ahead of types.
func TestFlags(t *testing.T) {
	for _, code := range rightCode {
		may := 0
		if isWord(code, "add", "sub", "mul", "shl") {
			may = 3
		}
		if isWord(code, "udiv", "sdiv", "lshr", "ashr") {
			may = 4
		}
		for _, flags := range []int{0, 1, 2, 3, 4, 5, 6, 7, 8, 16, -1, -8, math.MinInt, math.MaxInt} {
			if flags == flags&may {
				checkChanged(t, code, api.OK, func(in *api.Instr) { in.Flags = flags })
				continue
			}
			checkChanged(t, code, api.ErrFlags, func(in *api.Instr) { in.Flags = flags })
			if !strings.HasPrefix(code, "%") || isWord(code, "gep", "call") {
				continue
			}
			checkChanged(t, code, api.ErrFlags, func(in *api.Instr) { in.Flags, in.Type = flags, 66 })
		}
	}
}

// P8.1, 3.3: the Type, where it isn't fixed by the form.
func TestTypesOfInstrs(t *testing.T) {
	poison := func(in *api.Instr, n int) {
		in.Type = n
		for i := range in.Args {
			in.Args[i] = api.Value{Kind: api.Poison}
		}
	}
	for _, code := range rightCode {
		if isWord(code, "zext", "sext", "trunc", "call") {
			continue
		}
		most := 64
		if isWord(code, "eq", "ne", "select", "freeze", "load", "store") {
			most = 65
		}
		for _, n := range []int{math.MinInt, -1, 66, math.MaxInt, 1, 2, 64, 65} {
			want := api.ErrType
			switch {
			case isWord(code, "gep") && n != 65:
				want = api.ErrForm
			case 1 <= n && n <= most || isWord(code, "gep"):
				want = api.OK
			}
			checkChanged(t, code, want, func(in *api.Instr) { poison(in, n) })
		}
	}
	// Of the type Void an instruction makes nothing, and has a register where it mustn't, unless its type is another one.
	for _, code := range rightCode {
		switch {
		case isWord(code, "eq", "ne", "ult", "ule", "slt", "sle", "store"):
			checkChanged(t, code, api.ErrType, func(in *api.Instr) { in.Type = 0 })
		case !strings.HasPrefix(code, "%"):
		case isWord(code, "gep"):
			checkChanged(t, code, api.ErrForm, func(in *api.Instr) { in.Type = 0 })
		default:
			checkChanged(t, code, api.ErrForm, func(in *api.Instr) { in.Type = 0 })
			checkChanged(t, code, api.ErrType, func(in *api.Instr) { in.Type, in.Reg = 0, -1 })
		}
	}
}

// P8.1, 3.3: conversions, by chapter 1's Convert.
func TestConversions(t *testing.T) {
	for _, word := range []string{"zext", "sext", "trunc"} {
		for _, from := range []int{math.MinInt, -1, 0, 1, 2, 63, 64, 65, 66} {
			for _, to := range []int{math.MinInt, -1, 1, 2, 63, 64, 65, 66} {
				lesser, greater := from, to
				if word == "trunc" {
					lesser, greater = to, from
				}
				want := api.ErrType
				if 1 <= lesser && lesser < greater && greater <= 64 {
					want = api.OK
				}
				checkChanged(t, "%9 = "+word+" i8 poison to i8", want, func(in *api.Instr) { in.N, in.Type = from, to })
			}
		}
	}
}

// P8.1, 3.3: calls: what is called, its Ret, how many operands; in this order.
func TestCalls(t *testing.T) {
	for _, n := range []int{math.MinInt, -4, -3, 3, 4, math.MaxInt} {
		checkChanged(t, "%9 = call x(%1, %2)", api.ErrName, func(in *api.Instr) { in.N, in.Args = n, nil })
	}
	for _, typ := range []int{math.MinInt, -1, 1, 9, 65, 66} {
		checkChanged(t, "%9 = call x(%1, %2)", api.ErrType, func(in *api.Instr) { in.Type, in.Args = typ, nil })
		checkChanged(t, "call y()", api.ErrType, func(in *api.Instr) { in.Type, in.Reg, in.Args = typ, 9, make([]api.Value, 1) })
	}
	checkChanged(t, "%9 = call x(%1, %2)", api.ErrType, func(in *api.Instr) { in.Type, in.Reg = 0, -1 })
	checkChanged(t, "%9 = call x(%1, %2)", api.ErrType, func(in *api.Instr) { in.N = 2 })
	for _, code := range []string{"%9 = call x()", "%9 = call x(%1)", "%9 = call x(%1, %2, %2)", "call y(1)", "%9 = call p()"} {
		checkText(t, around(code), api.ErrArgs, at(0, 1, 1))
	}
	for _, code := range []string{"%9 = call x(%2, %1)", "%9 = call x(%1, %1)", "%9 = call x(256, %2)", "%9 = call x(%1, 65536)", "%9 = call p(%1)", "%9 = call p(0)", "%9 = call x(null, %2)"} {
		checkText(t, around(code), api.ErrType, at(0, 1, 1))
	}
}

// P8.1, 3.3: allocas, where they stand and how great they are.
func TestAllocas(t *testing.T) {
	checkText(t, around("%9 = alloca 1"), api.ErrForm, at(0, 1, 1))
	const text = "func f() void;b0:;%0 = alloca 8;ret;end"
	for _, n := range []int{math.MinInt, -1, 0, 65, math.MaxInt} {
		check(t, changed(t, text, func(m *api.Module) { instr(m, 0, 0).N = n }), api.ErrForm, at(0, 0, 0))
	}
	for _, typ := range []int{-1, 0, 8, 64, 66} {
		check(t, changed(t, text, func(m *api.Module) { instr(m, 0, 0).Type = typ }), api.ErrForm, at(0, 0, 0))
	}
	for _, n := range []int{1, 64} {
		check(t, changed(t, text, func(m *api.Module) { instr(m, 0, 0).N = n }), api.OK, api.Place{})
	}
	check(t, changed(t, text, func(m *api.Module) { instr(m, 0, 0).Args = make([]api.Value, 1) }), api.ErrForm, at(0, 0, 0))
	check(t, changed(t, text, func(m *api.Module) { instr(m, 0, 0).To = []int{0} }), api.ErrForm, at(0, 0, 0))
	check(t, changed(t, text, func(m *api.Module) { instr(m, 0, 0).Reg = -1 }), api.ErrForm, at(0, 0, 0))
	check(t, changed(t, text, func(m *api.Module) { instr(m, 0, 0).Flags = 1 }), api.ErrFlags, at(0, 0, 0))
}

// P8.1, 3.3: the four ends.
func TestFormsOfEnds(t *testing.T) {
	const text = "func f(i1) i8;b0:;brif %0, b1, b2;b1:;br b2;b2:;brif %0, b3, b4;b3:;halt;b4:;ret i8 3;end"
	checkRight(t, text)
	type change = func(in *api.Instr)
	none := func(in *api.Instr) {}
	one := func(in *api.Instr) { in.To = []int{1} }
	for b, all := range [][]change{
		{func(in *api.Instr) { in.To = in.To[1:] }, func(in *api.Instr) { in.To = []int{1, 2, 2} }, func(in *api.Instr) { in.Args = nil }},
		{func(in *api.Instr) { in.To = nil }, func(in *api.Instr) { in.To = []int{2, 2} }, func(in *api.Instr) { in.Args = make([]api.Value, 1) }},
		{none},
		{one, func(in *api.Instr) { in.Args = make([]api.Value, 1) }},
		{one, func(in *api.Instr) { in.Args = nil }, func(in *api.Instr) { in.Args = make([]api.Value, 2) }},
	} {
		all = append(all, func(in *api.Instr) { in.N = 1 }, func(in *api.Instr) { in.Reg = 0 }, func(in *api.Instr) { in.Reg = -2 })
		if b == 2 {
			all = all[1:]
		}
		if b < 4 {
			all = append(all, func(in *api.Instr) { in.Type = 1 }, func(in *api.Instr) { in.Type = -1 })
		}
		for _, change := range all {
			check(t, changed(t, text, func(m *api.Module) { change(instr(m, b, 0)) }), api.ErrForm, at(0, b, 0))
		}
		check(t, changed(t, text, func(m *api.Module) { instr(m, b, 0).Flags = 4 }), api.ErrFlags, at(0, b, 0))
	}
	for _, typ := range []int{-1, 0, 1, 7, 9, 65, 66} {
		check(t, changed(t, text, func(m *api.Module) { instr(m, 4, 0).Type = typ }), api.ErrType, at(0, 4, 0))
	}
	// A brif's operand is of i1.
	checkText(t, "func f(i8) void;b0:;brif %0, b1, b1;b1:;ret;end", api.ErrType, at(0, 0, 0))
	checkText(t, "func f(i8) void;b0:;brif 2, b1, b1;b1:;ret;end", api.ErrType, at(0, 0, 0))
	// A ret has an operand just where the function answers something.
	checkText(t, "func f() void;b0:;ret i8 1;end", api.ErrForm, at(0, 0, 0))
	checkText(t, "func f() void;b0:;ret void 1;end", api.ErrForm, at(0, 0, 0))
	checkText(t, "func f() i8;b0:;ret;end", api.ErrForm, at(0, 0, 0))
	check(t, changed(t, plainFunc, func(m *api.Module) { instr(m, 0, 0).Type = 8 }), api.ErrType, at(0, 0, 0))
	checkText(t, "func f() i8;b0:;ret i8 256;end", api.ErrType, at(0, 0, 0))
	checkText(t, "func f(i16) i8;b0:;ret i8 %0;end", api.ErrType, at(0, 0, 0))
}

// P8.1, 3.3: one instruction is asked whole ahead of the next one; all forms, flags and types ahead of all registers.
func TestFormsInOrder(t *testing.T) {
	checkText(t, around("%0 = eq void 1, 2;%9 = add exact i8 1, 2"), api.ErrType, at(0, 1, 1))
	checkText(t, around("%9 = add exact void 1, 2"), api.ErrForm, at(0, 1, 1))
	checkText(t, around("%9 = add exact ptr 1, 2"), api.ErrFlags, at(0, 1, 1))
	checkText(t, around("%0 = add i8 300, %77;%0 = add i8 1, 2;%9 = add exact i8 1, 2"), api.ErrFlags, at(0, 1, 3))
}

// P8.1, 3.4: registers that are made: no parameter's, none above the greatest, each once.
func TestMade(t *testing.T) {
	for _, reg := range []int{math.MinInt, -2, 0, 5, 4096, math.MaxInt} {
		checkChanged(t, "%9 = add i8 1, 2", api.ErrReg, func(in *api.Instr) { in.Reg = reg })
		checkChanged(t, "%9 = call p(null)", api.ErrReg, func(in *api.Instr) { in.Reg = reg })
	}
	for _, reg := range []int{7, 8, 100, 4094} {
		checkChanged(t, "%9 = add i8 1, 2", api.OK, func(in *api.Instr) { in.Reg = reg })
	}
	checkText(t, around("%6 = add i8 1, 2"), api.ErrTwice, at(0, 1, 1))
	checkText(t, around("%4095 = add i8 1, 2"), api.ErrTwice, at(0, 2, 0))
	checkText(t, around("%9 = add i8 1, 2;%9 = load ptr null"), api.ErrTwice, at(0, 1, 2))
	// What makes nothing has no register, which may be told as often as it likes.
	checkRight(t, around("call y();call y();store i8 1, null"))
	// All registers that are made come ahead of all operands, one behind the other.
	checkText(t, around("%9 = add i8 300, 2;%9 = add i8 1, 2;%0 = add i8 1, 2"), api.ErrTwice, at(0, 1, 2))
	checkText(t, around("%9 = add i8 300, 2;%5 = add i8 1, 2;%6 = add i8 1, 2"), api.ErrReg, at(0, 1, 2))
}
