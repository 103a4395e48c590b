package verify_test

import (
	"math"
	"slices"
	"strconv"
	"strings"
	"testing"

	"lathe/api"
	"lathe/parse"
	"lathe/verify"
)

// read is the module of a text, whose lines may stand behind each other with semicolons between.
func read(t *testing.T, text string) api.Module {
	t.Helper()
	m, fault := parse.Parse(strings.ReplaceAll(text, ";", "\n"))
	if fault != (api.Fault{}) {
		t.Fatalf("%q isn't read: %v", text, fault)
	}
	return m
}

func at(f, b, i int) api.Place {
	return api.Place{Func: f, Block: b, At: i}
}

func check(t *testing.T, m api.Module, code api.Errno, place api.Place) {
	t.Helper()
	if gotCode, gotPlace := verify.Check(m); gotCode != code || gotPlace != place {
		t.Errorf("Check: %v at %v, not %v at %v: %v", gotCode, gotPlace, code, place, m)
	}
}

// checkText checks a program's text.
func checkText(t *testing.T, text string, code api.Errno, place api.Place) {
	t.Helper()
	m, fault := parse.Parse(strings.ReplaceAll(text, ";", "\n"))
	if fault != (api.Fault{}) {
		t.Fatalf("%q isn't read: %v", text, fault)
	}
	if gotCode, gotPlace := verify.Check(m); gotCode != code || gotPlace != place {
		t.Errorf("Check: %v at %v, not %v at %v: %s", gotCode, gotPlace, code, place, text)
	}
}

func checkRight(t *testing.T, text string) {
	t.Helper()
	checkText(t, text, api.OK, api.Place{})
}

// changed is the module of a text with something done to it that no text tells.
func changed(t *testing.T, text string, change func(m *api.Module)) api.Module {
	t.Helper()
	m := read(t, text)
	change(&m)
	return m
}

// instr is the place in memory of an instruction of function 0.
func instr(m *api.Module, b, i int) *api.Instr {
	return &m.Funcs[0].Blocks[b].Code[i]
}

const plainFunc = "func f() void;b0:;ret;end"

// The chapter's examples.
func TestExamples(t *testing.T) {
	program := func(add, ret string) string { return "func f(i8) i8;b0:;" + add + ";" + ret + ";end" }
	const add, ret = "%1 = add i8 %0, 3", "ret i8 %1"
	checkRight(t, program(add, ret))
	checkText(t, program(add, "ret i8 %2"), api.ErrReg, at(0, 0, 1))
	checkText(t, program("%1 = add i16 %0, 3", ret), api.ErrType, at(0, 0, 0))
	checkText(t, program("%1 = add exact i8 %0, 3", ret), api.ErrFlags, at(0, 0, 0))
	checkText(t, program("%0 = add i8 %0, 3", ret), api.ErrReg, at(0, 0, 0))
	checkText(t, program(add, "br b0"), api.ErrBlock, at(0, 0, 1))
	checkText(t, program(add, "ret"), api.ErrForm, at(0, 0, 1))
	ways := func(last string) string {
		return "func f(i8) i8;b0:;brif 1, b1, b2;b1:;%1 = add i8 %0, 1;br b3;b2:;br b3;b3:;" + last + ";ret i8 %2;end"
	}
	checkText(t, ways("%2 = add i8 %1, 1"), api.ErrDom, at(0, 3, 0))
	checkRight(t, ways("%2 = phi i8 b1 %1, b2 7"))
	checkText(t, ways("%2 = phi i8 b2 7, b1 %1"), api.ErrPhi, at(0, 3, 0))
}

// P8.1: a module without anything is right, and so is one that has each limit's number of everything.
func TestFull(t *testing.T) {
	check(t, api.Module{}, api.OK, api.Place{})
	check(t, api.Module{Vars: []api.Var{}, Externs: []api.Extern{}, Funcs: []api.Func{}}, api.OK, api.Place{})
	check(t, full(), api.OK, api.Place{})
}

// full has as much of everything as there may be; its text has more bytes than one may have.
func full() api.Module {
	var m api.Module
	params := []int{1, 2, 8, 31, 32, 33, 63, 64}
	for i := range 8 {
		n := strconv.Itoa(i)
		m.Vars = append(m.Vars, api.Var{Name: "g" + n, Size: 64 - 9*i})
		m.Externs = append(m.Externs, api.Extern{Name: "x" + n, Params: params, Ret: 8 * i})
		f := api.Func{Name: "f" + n, Params: []int{65, 64, 1, 65, 8, 8, 8, 64}, Ret: 65}
		for b := range 64 {
			jump := api.Instr{Op: api.Br, Reg: -1, To: []int{b + 1}}
			if b == 63 {
				jump = api.Instr{Op: api.Ret, Reg: -1, Type: 65, Args: []api.Value{{Kind: api.Null}}}
			}
			f.Blocks = append(f.Blocks, api.Block{Code: []api.Instr{jump}})
		}
		for r := range 400 - 64 {
			and := api.Instr{Op: api.And, Reg: 4095 - r, Type: 64, Args: []api.Value{{Kind: api.Const, Bits: math.MaxUint64}, {Kind: api.Const, Bits: math.MaxUint64}}}
			f.Blocks[31].Code = slices.Insert(f.Blocks[31].Code, 0, and)
		}
		m.Funcs = append(m.Funcs, f)
	}
	return m
}

// P8.1, 1: how many there are of everything, ahead of what they are.
func TestTooMany(t *testing.T) {
	m := full()
	m.Vars = append(m.Vars, api.Var{Name: "h", Size: 1})
	m.Vars[0].Name = ""
	check(t, m, api.ErrLimit, at(-1, 0, 0))
	m = full()
	m.Externs = append(m.Externs, api.Extern{Name: "h"})
	m.Vars[0].Name = ""
	check(t, m, api.ErrLimit, at(-1, 0, 0))
	m = full()
	m.Funcs = append(m.Funcs, read(t, plainFunc).Funcs[0])
	m.Vars[0].Name = ""
	check(t, m, api.ErrLimit, at(-1, 0, 0))
}

var noWords = []string{"", "A", "aB", "9a", "9", "a b", " a", "a ", "a\n", "a-b", "é", "aé", "@a", "%1", "a\x00"}

// P8.1, 1: the globals' names and sizes.
func TestVars(t *testing.T) {
	vars := func(all ...api.Var) api.Module {
		m := read(t, plainFunc)
		m.Vars = all
		return m
	}
	for _, name := range []string{"a", "_", "z_09", "f", "global", "i8", "b0", strings.Repeat("a", 1<<17)} {
		check(t, vars(api.Var{Name: "x", Size: 1}, api.Var{Name: name, Size: 64}), api.OK, api.Place{})
	}
	for _, name := range noWords {
		check(t, vars(api.Var{Name: "x", Size: 1}, api.Var{Name: name, Size: 0}), api.ErrName, at(-1, 0, 0))
	}
	for _, size := range []int{math.MinInt, -1, 0, 65, 66, math.MaxInt} {
		check(t, vars(api.Var{Name: "x", Size: size}, api.Var{Name: ""}), api.ErrLimit, at(-1, 0, 0))
	}
	check(t, vars(api.Var{Name: "x", Size: 1}, api.Var{Name: "y", Size: 1}, api.Var{Name: "x", Size: 0}), api.ErrTwice, at(-1, 0, 0))
	check(t, vars(api.Var{Size: 1}, api.Var{Size: 1}), api.ErrName, at(-1, 0, 0))
	// Globals come ahead of the rest.
	m := vars(api.Var{Name: "x", Size: 65})
	m.Externs = []api.Extern{{Name: ""}}
	check(t, m, api.ErrLimit, at(-1, 0, 0))
}

// P8.1, 2: names of externs and functions are of one sort, those of globals of another one.
func TestHeadNames(t *testing.T) {
	for _, name := range noWords {
		check(t, changed(t, "extern x() void;"+plainFunc, func(m *api.Module) { m.Externs[0] = api.Extern{Name: name, Ret: 99} }), api.ErrName, at(-1, 0, 0))
		check(t, changed(t, "func h() void;b0:;ret;end;"+plainFunc, func(m *api.Module) { m.Funcs[1] = api.Func{Name: name, Ret: 99} }), api.ErrName, at(1, 0, 0))
	}
	checkRight(t, "global f 1;global x 1;extern x() void;"+plainFunc)
	const four = "extern x() void;extern y() void;func f() void;b0:;ret;end;func h() void;b0:;ret;end"
	checkRight(t, four)
	check(t, changed(t, four, func(m *api.Module) { m.Externs[1].Name, m.Externs[1].Ret = "x", 99 }), api.ErrTwice, at(-1, 0, 0))
	check(t, changed(t, four, func(m *api.Module) { m.Funcs[1].Name, m.Funcs[1].Ret = "x", 99 }), api.ErrTwice, at(1, 0, 0))
	check(t, changed(t, four, func(m *api.Module) { m.Funcs[1].Name, m.Funcs[1].Params = "f", make([]int, 9) }), api.ErrTwice, at(1, 0, 0))
	check(t, changed(t, four, func(m *api.Module) { m.Funcs[0].Name, m.Funcs[1].Name = "y", "" }), api.ErrTwice, at(0, 0, 0))
}

// P8.1, 2: how many parameters, and the types of all.
func TestHeadTypes(t *testing.T) {
	const text = "extern x() void;func f() void;b0:;halt;end;func h() void;b0:;halt;end"
	check(t, changed(t, text, func(m *api.Module) { m.Externs[0].Params = make([]int, 9) }), api.ErrLimit, at(-1, 0, 0))
	check(t, changed(t, text, func(m *api.Module) { m.Funcs[1].Params = make([]int, 9) }), api.ErrLimit, at(1, 0, 0))
	check(t, changed(t, text, func(m *api.Module) { m.Funcs[1].Params = make([]int, 8) }), api.ErrType, at(1, 0, 0))
	for _, n := range []int{math.MinInt, -1, 0, 1, 2, 63, 64, 65, 66, math.MaxInt} {
		expect := func(right bool, place api.Place, change func(m *api.Module)) {
			t.Helper()
			if right {
				check(t, changed(t, text, change), api.OK, api.Place{})
			} else {
				check(t, changed(t, text, change), api.ErrType, place)
			}
		}
		expect(1 <= n && n <= 64, at(-1, 0, 0), func(m *api.Module) { m.Externs[0].Params = []int{64, n} })
		expect(0 <= n && n <= 64, at(-1, 0, 0), func(m *api.Module) { m.Externs[0].Ret = n })
		expect(1 <= n && n <= 65, at(1, 0, 0), func(m *api.Module) { m.Funcs[1].Params = []int{65, n} })
		expect(0 <= n && n <= 65, at(1, 0, 0), func(m *api.Module) { m.Funcs[1].Ret = n })
	}
	// All heads come ahead of all bodies, one head behind the other.
	check(t, changed(t, text, func(m *api.Module) { m.Funcs[0].Blocks, m.Funcs[1].Ret = nil, 66 }), api.ErrType, at(1, 0, 0))
	check(t, changed(t, text, func(m *api.Module) { m.Externs[0].Ret, m.Funcs[0].Name = 65, "" }), api.ErrType, at(-1, 0, 0))
	check(t, changed(t, text, func(m *api.Module) { m.Funcs[0].Ret, m.Funcs[1].Name = -1, "" }), api.ErrType, at(0, 0, 0))
}

// P8.1, 3.1: how many blocks and instructions a function has.
func TestBodyLimits(t *testing.T) {
	check(t, changed(t, plainFunc+";func h() void;b0:;ret;end", func(m *api.Module) { m.Funcs[1].Blocks = nil }), api.ErrLimit, at(1, 0, 0))
	blocks := func(n int) api.Module {
		m := full()
		m.Funcs[2].Blocks = slices.Repeat([]api.Block{{Code: []api.Instr{{Op: api.Halt, Reg: -1}}}}, n)
		return m
	}
	check(t, blocks(64), api.OK, api.Place{})
	check(t, blocks(65), api.ErrLimit, at(2, 0, 0))
	code := func(n int) api.Module {
		m := full()
		calls := slices.Repeat([]api.Instr{{Op: api.Call, Reg: -1, N: -1, Args: slices.Repeat([]api.Value{{Kind: api.Const}}, 8)}}, n)
		m.Funcs[2].Blocks = []api.Block{{Code: append(calls[1:], api.Instr{Op: api.Halt, Reg: -1})}}
		return m
	}
	check(t, code(400), api.OK, api.Place{})
	check(t, code(401), api.ErrLimit, at(2, 0, 0))
	// So many in two blocks, neither of which is too great; and a limit is asked ahead of ends.
	m := code(300)
	m.Funcs[2].Blocks = append(m.Funcs[2].Blocks, m.Funcs[2].Blocks[0], api.Block{})
	check(t, m, api.ErrLimit, at(2, 0, 0))
	// A function is asked whole ahead of the next one.
	m = blocks(0)
	m.Funcs[1].Blocks[63].Code[0].Args[0].Kind = 0
	check(t, m, api.ErrForm, at(1, 63, 0))
}

// P8.1, 3.2: each block ends, only at its end, and goes on to blocks other than 0.
func TestEnds(t *testing.T) {
	const text = "func f() void;b0:;%0 = alloca 1;br b1;b1:;%1 = freeze i8 7;%2 = freeze i8 7;brif 1, b1, b2;b2:;halt;end"
	check(t, changed(t, text, func(m *api.Module) { m.Funcs[0].Blocks[1].Code = nil }), api.ErrEnd, at(0, 1, 0))
	check(t, changed(t, text, func(m *api.Module) { m.Funcs[0].Blocks[1].Code = m.Funcs[0].Blocks[1].Code[:2] }), api.ErrEnd, at(0, 1, 0))
	for _, op := range []int{api.Br, api.Brif, api.Ret, api.Halt} {
		check(t, changed(t, text, func(m *api.Module) { instr(m, 1, 1).Op, instr(m, 1, 2).To[0] = op, 9 }), api.ErrEnd, at(0, 1, 1))
	}
	check(t, changed(t, text, func(m *api.Module) { instr(m, 1, 0).Op, instr(m, 1, 1).Op = api.Halt, api.Br }), api.ErrEnd, at(0, 1, 0))
	check(t, changed(t, text, func(m *api.Module) { instr(m, 1, 0).Op, instr(m, 1, 2).Op = api.Halt, api.Add }), api.ErrEnd, at(0, 1, 0))
	for _, to := range []int{math.MinInt, -1, 0, 3, 4, math.MaxInt} {
		check(t, changed(t, text, func(m *api.Module) { instr(m, 0, 1).To[0] = to }), api.ErrBlock, at(0, 0, 1))
		check(t, changed(t, text, func(m *api.Module) { instr(m, 1, 2).To[0] = to }), api.ErrBlock, at(0, 1, 2))
		check(t, changed(t, text, func(m *api.Module) { instr(m, 1, 2).To[1] = to }), api.ErrBlock, at(0, 1, 2))
		// A ret or halt has no numbers there; but this is asked ahead of its form.
		check(t, changed(t, text, func(m *api.Module) { instr(m, 2, 0).To = []int{1, to} }), api.ErrBlock, at(0, 2, 0))
	}
	check(t, changed(t, text, func(m *api.Module) { instr(m, 2, 0).To = []int{1} }), api.ErrForm, at(0, 2, 0))
	// Block by block: what is wrong with the numbers of one comes ahead of the next one's end.
	check(t, changed(t, text, func(m *api.Module) { instr(m, 0, 1).To[0], m.Funcs[0].Blocks[1].Code = 0, nil }), api.ErrBlock, at(0, 0, 1))
	// Only the last one's numbers are asked here, and ends ahead of forms.
	check(t, changed(t, text, func(m *api.Module) { instr(m, 0, 0).To, instr(m, 1, 2).To[1] = []int{9}, 9 }), api.ErrBlock, at(0, 1, 2))
	check(t, changed(t, text, func(m *api.Module) { instr(m, 0, 0).To = []int{9} }), api.ErrForm, at(0, 0, 0))
}

// P8.1: what Check answers hangs on the module alone, not on a panic that isn't its own.
func TestWhilePanicking(t *testing.T) {
	right, wrong := read(t, plainFunc), read(t, "func f() void;b0:;br b0;end")
	defer func() {
		check(t, right, api.OK, api.Place{})
		check(t, wrong, api.ErrBlock, at(0, 0, 0))
		if recover() != "mine" {
			t.Error("Check recovers what isn't its own")
		}
	}()
	panic("mine")
}
