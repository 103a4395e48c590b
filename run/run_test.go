package run_test

import (
	"math"
	"strings"
	"testing"

	"lathe/api"
	"lathe/parse"
	"lathe/run"
	"lathe/verify"
)

const enough = 10000

var (
	poison = api.Val{}
	some   = api.Val{Kind: api.IsAny}
	null   = addr(-1, 0)
)

func number(bits uint64) api.Val { return api.Val{Kind: api.IsInt, Bits: bits} }

func addr(block int, off int64) api.Val {
	return api.Val{Kind: api.IsAddr, Block: block, Off: off}
}

func numbers(list ...byte) []api.Byte {
	var bytes []api.Byte
	for _, b := range list {
		bytes = append(bytes, api.Byte{Kind: api.ByteInt, Bits: b})
	}
	return bytes
}

func pieces(block int, off int64) []api.Byte {
	var bytes []api.Byte
	for i := range 8 {
		bytes = append(bytes, api.Byte{Kind: api.ByteAddr, Block: block, Off: off, I: i})
	}
	return bytes
}

// read reads a program, whose lines are separated by semicolons, and which is right.
func read(t *testing.T, text string) api.Module {
	t.Helper()
	m, fault := parse.Parse(strings.ReplaceAll(text, ";", "\n"))
	if code, place := verify.Check(m); fault != (api.Fault{}) || code != api.OK {
		t.Fatalf("%q: %v, %v at %v", text, fault, code, place)
	}
	return m
}

// checkOut holds the run of a text's function 0 against what it should be, and against the words.
func checkOut(t *testing.T, text string, args []api.Val, script []api.Reply, fuel int, want api.Outcome) {
	t.Helper()
	m := read(t, text)
	if got := run.Run(m, 0, args, script, fuel); !same(got, want) {
		t.Errorf("%q with %v, %v, %d:\n%v, not\n%v", text, args, script, fuel, got, want)
	}
	checkByWords(t, m, 0, args, script, fuel)
}

// checkRet asks a program without globals and events: it is done, with a value, in so many steps.
func checkRet(t *testing.T, text string, want api.Val, steps int, args ...api.Val) {
	t.Helper()
	checkOut(t, text, args, nil, enough, api.Outcome{Status: api.Done, Ret: want, Steps: steps})
}

// checkEnd asks a program without events: it ends otherwise than done, with its last step.
func checkEnd(t *testing.T, text string, status, steps int, args ...api.Val) {
	t.Helper()
	checkOut(t, text, args, nil, enough, api.Outcome{Status: status, Steps: steps})
}

const addOne = "func f(i8) i8;b0:;%1 = add nsw i8 %0, 1;ret i8 %1;end"

// The chapter's examples.
func TestExamples(t *testing.T) {
	checkRet(t, addOne, number(6), 2, number(5))
	checkOut(t, addOne, []api.Val{number(5)}, nil, 1, api.Outcome{Status: api.NoFuel, Steps: 1})
	checkRet(t, addOne, poison, 2, number(127))
	checkRet(t, addOne, poison, 2)
	told := "global g 2;extern x(i8) i8;func f() i8;b0:;store i8 7, @g;%0 = call x(3);%1 = load i8 @g;ret i8 %1;end"
	script := []api.Reply{{Ret: 9, Writes: []api.Write{{Var: 0, At: 1, Bits: 5}, {Var: 0, At: 0, Bits: 4}}}}
	event := api.Event{Extern: 0, Args: []api.Val{number(3)}, Vars: [][]api.Byte{numbers(7, 0)}}
	checkOut(t, told, nil, script, enough, api.Outcome{Ret: number(4), Events: []api.Event{event}, Vars: [][]api.Byte{numbers(4, 5)}, Steps: 4})
	checkRet(t, "func f() ptr;b0:;%0 = alloca 4;ret ptr %0;end", poison, 2)
	checkEnd(t, "func f() void;b0:;%0 = freeze i1 poison;brif %0, b1, b2;b1:;ret;b2:;ret;end", api.Loose, 2)
	checkEnd(t, "func f() i8;b0:;%1 = load i8 null;ret i8 %1;end", api.Undef, 1)
}

// The examples 4, 6, 7 and 8 of the whole, as far as they are run.
func TestExamplesOfTheWhole(t *testing.T) {
	checkRet(t, "func f(i8) i8;b0:;%1 = add nsw i8 %0, 1;%2 = freeze i8 %1;ret i8 %2;end", some, 3, number(127))
	checkEnd(t, "extern x() void;func f() i8;b0:;%0 = udiv i8 1, 0;call x();ret i8 %0;end", api.Undef, 1)
	checkOut(t, "extern x() void;func f() i8;b0:;call x();%0 = udiv i8 1, 0;ret i8 %0;end", nil, nil, enough, api.Outcome{Status: api.Undef, Events: []api.Event{{}}, Steps: 2})
	checkEnd(t, "func f(i8) i8;b0:;%1 = load i8 null;ret i8 %0;end", api.Undef, 1, number(1))
}

// P11.1: a module that isn't right, and a function that there is none of: bad, and nothing else.
func TestBad(t *testing.T) {
	m := read(t, addOne+";func g() void;b0:;ret;end")
	for _, fn := range []int{math.MinInt, -2, -1, 2, 3, 1 << 32, math.MaxInt} {
		if out := run.Run(m, fn, []api.Val{number(1)}, nil, enough); !same(out, api.Outcome{Status: api.Bad}) {
			t.Error(fn, out)
		}
	}
	for fn := range 2 {
		if out := run.Run(m, fn, nil, nil, enough); out.Status != api.Done {
			t.Error(fn, out)
		}
		// Though nothing is wrong with the other one.
		m.Funcs[fn].Name = "-"
		for other := range 2 {
			if out := run.Run(m, other, nil, nil, enough); !same(out, api.Outcome{Status: api.Bad}) {
				t.Error(fn, other, out)
			}
		}
		m.Funcs[fn].Name = string(rune('p' + fn))
	}
	for _, fuel := range []int{-1, 0, enough} {
		if out := run.Run(api.Module{}, 0, nil, nil, fuel); !same(out, api.Outcome{Status: api.Bad}) {
			t.Error(out)
		}
		if out := run.Run(m, 2, nil, nil, fuel); !same(out, api.Outcome{Status: api.Bad}) {
			t.Error(out)
		}
	}
}

// P11.1, P11.2: as many steps as there is fuel; below 0 it is none.
func TestFuel(t *testing.T) {
	for _, fuel := range []int{math.MinInt, -1, 0} {
		checkOut(t, addOne, []api.Val{number(5)}, nil, fuel, api.Outcome{Status: api.NoFuel})
	}
	for _, fuel := range []int{2, 3, math.MaxInt} {
		checkOut(t, addOne, []api.Val{number(5)}, nil, fuel, api.Outcome{Ret: number(6), Steps: 2})
	}
	endless := "func f() void;b0:;br b1;b1:;br b1;end"
	for _, fuel := range []int{1, 2, 3, 1000} {
		checkOut(t, endless, nil, nil, fuel, api.Outcome{Status: api.NoFuel, Steps: fuel})
	}
	// The instruction that there is no fuel for isn't begun, even if it were the end.
	for _, end := range []string{"halt", "%0 = load i8 null;ret", "call f();ret", "brif poison, b1, b1;b1:;ret"} {
		checkOut(t, "func f() void;b0:;%9 = add i8 1, 1;"+end+";end", nil, nil, 1, api.Outcome{Status: api.NoFuel, Steps: 1})
	}
	event := api.Event{}
	told := "extern x() void;func f() void;b0:;call x();call x();ret;end"
	for fuel, events := range [][]api.Event{nil, {event}, {event, event}} {
		checkOut(t, told, nil, nil, fuel, api.Outcome{Status: api.NoFuel, Events: events, Steps: fuel})
	}
	checkOut(t, told, nil, nil, 3, api.Outcome{Events: []api.Event{event, event}, Steps: 3})
}

// P11.1: the arguments, as the first call has them.
func TestArguments(t *testing.T) {
	of := func(typ string) string { return "func f(" + typ + ") " + typ + ";b0:;ret " + typ + " %0;end" }
	checkRet(t, of("i8"), number(255), 1, number(255))
	checkRet(t, of("i8"), number(44), 1, number(300))
	checkRet(t, of("i8"), number(1), 1, api.Val{Kind: api.IsInt, Bits: 1, Block: 5, Off: 7})
	checkRet(t, of("i64"), number(math.MaxUint64), 1, number(math.MaxUint64))
	checkRet(t, of("i8"), some, 1, api.Val{Kind: api.IsAny, Bits: 4, Block: 2})
	checkRet(t, of("ptr"), some, 1, some)
	for _, stray := range []api.Val{{Bits: 4}, null, addr(0, 0), {Kind: 4, Bits: 1}, {Kind: -1}, {Kind: math.MaxInt}} {
		checkRet(t, of("i8"), poison, 1, stray)
	}
	for _, block := range []int{math.MinInt, -2, 0, 1, 2, math.MaxInt} {
		checkRet(t, of("ptr"), poison, 1, addr(block, 0))
	}
	checkRet(t, of("ptr"), addr(-1, 7), 1, api.Val{Kind: api.IsAddr, Bits: 3, Block: -1, Off: 7})
	checkRet(t, of("ptr"), poison, 1, number(0))
	checkRet(t, of("ptr"), poison, 1, api.Val{Kind: 5, Block: -1})
	checkRet(t, "func f(i8, i8) i8;b0:;ret i8 %1;end", poison, 1, number(1))
	checkRet(t, "func f(i8, i8) i8;b0:;ret i8 %1;end", number(2), 1, number(1), number(2), number(3))
	checkRet(t, "func f() i8;b0:;ret i8 4;end", number(4), 1, number(1), null)
}

// P11.1: of addresses those of globals are let in, whatever their Off; and not those that an Alloca is to make.
func TestAddressArguments(t *testing.T) {
	text := "global g 1;global h 2;func f(ptr) ptr;b0:;%1 = alloca 8;ret ptr %0;end"
	vars := [][]api.Byte{numbers(0), numbers(0, 0)}
	for block := -3; block < 5; block++ {
		for _, off := range []int64{0, 1, -1, 77, math.MinInt64, math.MaxInt64} {
			want := poison
			if block >= -1 && block <= 1 {
				want = addr(block, off)
			}
			checkOut(t, text, []api.Val{addr(block, off)}, nil, enough, api.Outcome{Ret: want, Vars: vars, Steps: 2})
		}
	}
	// So what the Alloca makes can't be met by an argument.
	checkOut(t, "global g 1;func f(ptr) i1;b0:;%1 = alloca 8;%2 = eq ptr %1, %0;ret i1 %2;end", []api.Val{addr(1, 0)}, nil, enough, api.Outcome{Ret: poison, Vars: vars[:1], Steps: 3})
}

// P11.1: what operands are.
func TestOperands(t *testing.T) {
	vars := [][]api.Byte{numbers(0), numbers(0)}
	of := func(typ, v string) string {
		return "global g 1;global h 1;func f(i8) " + typ + ";b0:;ret " + typ + " " + v + ";end"
	}
	for _, c := range []struct {
		typ, v string
		want   api.Val
	}{
		{"i8", "%0", number(6)}, {"i8", "200", number(200)}, {"i64", "18446744073709551615", number(math.MaxUint64)}, {"i8", "poison", poison},
		{"ptr", "poison", poison}, {"ptr", "null", null}, {"ptr", "@g", addr(0, 0)}, {"ptr", "@h", addr(1, 0)},
	} {
		checkOut(t, of(c.typ, c.v), []api.Val{number(6)}, nil, enough, api.Outcome{Ret: c.want, Vars: vars, Steps: 1})
	}
}

// P11.1: chapter 10's instructions, with what they end with.
func TestEvaluated(t *testing.T) {
	for _, c := range []struct {
		code string
		want api.Val
	}{
		{"add i8 200, 100", number(44)}, {"add nuw i8 200, 100", poison}, {"sle i8 255, 0", number(1)}, {"sext i8 128 to i16", number(65408)}, {"trunc i16 511 to i8", number(255)},
		{"zext i8 255 to i16", number(255)}, {"select i8 1, 5, poison", number(5)}, {"freeze i8 poison", some}, {"freeze i8 5", number(5)}, {"gep null, 5", addr(-1, 5)}, {"eq ptr null, null", number(1)}, {"ashr i8 255, 8", poison},
	} {
		checkRet(t, "func f() "+typeOf(c.code)+";b0:;%7 = "+c.code+";ret "+typeOf(c.code)+" %7;end", c.want, 2)
	}
	for _, op := range []string{"udiv", "sdiv", "urem", "srem"} {
		checkEnd(t, "func f() i8;b0:;%0 = "+op+" i8 1, 0;ret i8 %0;end", api.Undef, 1)
		checkEnd(t, "func f() i8;b0:;%0 = "+op+" i8 1, poison;ret i8 %0;end", api.Undef, 1)
		checkEnd(t, "func f() i8;b0:;%1 = freeze i8 poison;%0 = "+op+" i8 1, %1;ret i8 %0;end", api.Loose, 2)
		checkRet(t, "func f() i8;b0:;%0 = "+op+" i8 poison, 3;ret i8 %0;end", poison, 2)
	}
	checkEnd(t, "func f() i8;b0:;%0 = sdiv i8 128, 255;ret i8 %0;end", api.Undef, 1)
}

// typeOf is the word of the type that a line makes.
func typeOf(code string) string {
	words := strings.Fields(code)
	switch words[0] {
	case "eq", "sle":
		return "i1"
	case "gep":
		return "ptr"
	case "zext", "sext", "trunc":
		return words[4]
	case "add":
		if words[1] == "nuw" {
			return words[2]
		}
	}
	return words[1]
}

// P11.1: phis take what comes from the block that was come from, all at once.
func TestPhi(t *testing.T) {
	way := "func f(i1) i8;b0:;brif %0, b2, b1;b1:;br b3;b2:;br b3;b3:;%1 = phi i8 b1 5, b2 6;ret i8 %1;end"
	checkRet(t, way, number(5), 4, number(0))
	checkRet(t, way, number(6), 4, number(1))
	// In each round the two change places; the third has what the first had been a round ahead.
	swap := "func f() i8;b0:;br b1;b1:;%0 = phi i8 b0 1, b1 %1;%1 = phi i8 b0 2, b1 %0;%2 = phi i8 b0 9, b1 %0;%3 = phi i8 b0 0, b1 %4;%4 = add i8 %3, 1;%5 = ult i8 %4, ROUNDS;brif %5, b1, b2;b2:;%6 = mul i8 %1, 10;%7 = add i8 %6, %0;ret i8 %LAST;end"
	round := func(rounds, last string) string {
		return strings.NewReplacer("ROUNDS", rounds, "LAST", last).Replace(swap)
	}
	checkRet(t, round("1", "7"), number(21), 1+7+3)
	checkRet(t, round("2", "7"), number(12), 1+2*7+3)
	checkRet(t, round("3", "7"), number(21), 1+3*7+3)
	checkRet(t, round("1", "2"), number(9), 1+7+3)
	checkRet(t, round("2", "2"), number(1), 1+2*7+3)
	checkRet(t, round("3", "2"), number(2), 1+3*7+3)
	// Each is a step, so that the fuel may end among them; then nothing is told of it.
	for fuel := range 18 {
		checkOut(t, round("2", "7"), nil, nil, fuel, api.Outcome{Status: api.NoFuel, Steps: fuel})
	}
	checkRet(t, "func f() i8;b0:;brif 1, b1, b1;b1:;%0 = phi i8 b0 poison;%1 = freeze i8 %0;ret i8 %1;end", some, 4)
}

// P11.1: ways from block to block.
func TestWays(t *testing.T) {
	choice := "func f(i1) i8;b0:;brif %0, b1, b2;b1:;ret i8 1;b2:;ret i8 2;end"
	checkRet(t, choice, number(1), 2, number(1))
	checkRet(t, choice, number(1), 2, number(3))
	checkRet(t, choice, number(2), 2, number(0))
	checkRet(t, choice, number(2), 2, number(2))
	checkEnd(t, choice, api.Undef, 1, poison)
	checkEnd(t, choice, api.Undef, 1)
	checkEnd(t, choice, api.Loose, 1, some)
	// Even where both go on to one block.
	checkEnd(t, "func f() void;b0:;brif poison, b1, b1;b1:;ret;end", api.Undef, 1)
	checkEnd(t, "func f() void;b0:;halt;end", api.Undef, 1)
	checkEnd(t, "func f() void;b0:;br b2;b1:;ret;b2:;halt;end", api.Undef, 2)
	checkRet(t, "func f() void;b0:;ret;end", poison, 1)
	checkRet(t, "func f() i8;b0:;ret i8 poison;end", poison, 1)
}

// P11.1: memory that an Alloca makes.
func TestAlloca(t *testing.T) {
	checkRet(t, "func f() i8;b0:;%0 = alloca 1;%1 = load i8 %0;ret i8 %1;end", poison, 3)
	checkRet(t, "func f() i8;b0:;%0 = alloca 1;store i8 7, %0;%1 = load i8 %0;ret i8 %1;end", number(7), 4)
	checkRet(t, "func f() i1;b0:;%0 = alloca 1;%1 = alloca 1;%2 = eq ptr %0, %1;ret i1 %2;end", number(0), 4)
	checkRet(t, "func f() i1;b0:;%0 = alloca 1;%2 = eq ptr %0, null;ret i1 %2;end", number(0), 3)
	checkRet(t, "func f() i32;b0:;%0 = alloca 4;store i32 1, %0;%1 = gep %0, 1;store i8 2, %1;%2 = load i32 %0;ret i32 %2;end", number(513), 6)
	// A block has as many bytes as the Alloca says, and behind those none.
	checkEnd(t, "func f() void;b0:;%0 = alloca 4;%1 = gep %0, 4;store i8 1, %1;ret;end", api.Undef, 3)
	checkEnd(t, "func f() void;b0:;%0 = alloca 4;store i33 1, %0;ret;end", api.Undef, 2)
	// Each call has its own, which begins as poison.
	again := "func f() i8;b0:;%1 = call g();%0 = call g();ret i8 %0;end;func g() i8;b0:;%0 = alloca 1;%1 = load i8 %0;store i8 7, %0;ret i8 %1;end"
	checkRet(t, again, poison, 2+2*4+1)
}

// P11.1: what loads and stores of each address do.
func TestLoadStore(t *testing.T) {
	for _, c := range []struct {
		at     string
		status int
	}{
		{"null", api.Undef}, {"poison", api.Undef}, {"%1", api.Loose}, {"%2", api.Undef}, {"%3", api.Undef}, {"%4", api.Done}, {"%5", api.Undef},
	} {
		head := "global g 2;func f() i8;b0:;%1 = freeze ptr poison;%2 = gep @g, 2;%3 = gep @g, 18446744073709551615;%4 = gep @g, 1;%5 = gep null, 1;"
		want := api.Outcome{Status: c.status, Steps: 6}
		if c.status == api.Done {
			want.Ret, want.Steps, want.Vars = number(0), 7, [][]api.Byte{numbers(0, 0)}
		}
		checkOut(t, head+"%6 = load i8 "+c.at+";ret i8 %6;end", nil, nil, enough, want)
		if c.status == api.Done {
			want.Ret, want.Vars = number(3), [][]api.Byte{numbers(0, 9)}
		}
		checkOut(t, head+"store i8 9, "+c.at+";ret i8 3;end", nil, nil, enough, want)
	}
	vars := [][]api.Byte{append(numbers(1, 2), make([]api.Byte, 1)...)}
	checkOut(t, "global g 3;func f() i16;b0:;%0 = gep @g, 2;store i8 poison, %0;store i16 513, @g;%1 = load i16 @g;ret i16 %1;end", nil, nil, enough, api.Outcome{Ret: number(513), Vars: vars, Steps: 5})
	vars = [][]api.Byte{append([]api.Byte{{Kind: api.ByteAny}, {Kind: api.ByteAny}}, numbers(0)...)}
	checkOut(t, "global g 3;func f() i16;b0:;%0 = freeze i16 poison;store i16 %0, @g;%1 = load i16 @g;ret i16 %1;end", nil, nil, enough, api.Outcome{Ret: some, Vars: vars, Steps: 4})
	// An address that is any leaves nothing behind.
	checkOut(t, "global g 8;func f(ptr) ptr;b0:;store ptr %0, @g;%1 = load ptr @g;ret ptr %1;end", []api.Val{some}, nil, enough, api.Outcome{Ret: poison, Vars: [][]api.Byte{make([]api.Byte, 8)}, Steps: 3})
	checkOut(t, "global g 8;func f(ptr) ptr;b0:;store ptr %0, @g;%1 = load ptr @g;ret ptr %1;end", []api.Val{addr(0, 5)}, nil, enough, api.Outcome{Ret: addr(0, 5), Vars: [][]api.Byte{pieces(0, 5)}, Steps: 3})
}
