package run_test

import (
	"math"
	"strings"
	"testing"

	"lathe/api"
)

// P11.1: a call of a function hands it values, and holds what it answers; each has registers of its own.
func TestCallOfFunction(t *testing.T) {
	checkRet(t, "func f() i8;b0:;%0 = call g(7, 2);ret i8 %0;end;func g(i8, i8) i8;b0:;%2 = sub i8 %0, %1;ret i8 %2;end", number(5), 4)
	checkRet(t, "func f() i8;b0:;%0 = call g(poison, 2);ret i8 %0;end;func g(i8, i8) i8;b0:;ret i8 %1;end", number(2), 3)
	checkRet(t, "func f() i8;b0:;%0 = call g(poison);ret i8 %0;end;func g(i8) i8;b0:;ret i8 %0;end", poison, 3)
	checkRet(t, "func f() i8;b0:;%0 = add i8 1, 1;call g();ret i8 %0;end;func g() void;b0:;%0 = add i8 4, 4;ret;end", number(2), 5)
	factorial := "func f(i8) i8;b0:;%1 = eq i8 %0, 0;brif %1, b1, b2;b1:;ret i8 1;b2:;%2 = sub i8 %0, 1;%3 = call f(%2);%4 = mul i8 %3, %0;ret i8 %4;end"
	checkRet(t, factorial, number(1), 3, number(0))
	checkRet(t, factorial, number(120), 5*6+3, number(5))
	checkEnd(t, "func f() void;b0:;call g();ret;end;func g() void;b0:;halt;end", api.Undef, 2)
	checkEnd(t, "func f(i1) void;b0:;call g(%0);ret;end;func g(i1) void;b0:;brif %0, b1, b1;b1:;ret;end", api.Loose, 2, some)
	for fuel := range 4 {
		checkOut(t, "func f() void;b0:;call g();ret;end;func g() void;b0:;br b1;b1:;ret;end", nil, nil, fuel, api.Outcome{Status: api.NoFuel, Steps: fuel})
	}
	// Where a phi stands behind a call, the block that was come from is the caller's own.
	checkRet(t, "func f() i8;b0:;br b2;b1:;br b2;b2:;%0 = phi i8 b0 1, b1 2, b3 %1;%1 = call g();br b3;b3:;%2 = ult i8 %0, 4;brif %2, b2, b4;b4:;ret i8 %1;end;func g() i8;b0:;br b1;b1:;br b2;b2:;ret i8 9;end", number(9), 1+2*(6+2)+1)
}

// sum counts a number of calls down, one in the other; so it is deep by one more than this number.
const sum = "extern x() i8;func f(i8) i8;b0:;%1 = eq i8 %0, 0;brif %1, b1, b2;b1:;EVENT;ret i8 1;b2:;%2 = sub i8 %0, 1;%3 = call f(%2);%4 = add i8 %3, 1;ret i8 %4;end"

// P11.1: 32 calls may be under way; and an extern's is none of them.
func TestDepth(t *testing.T) {
	quiet := strings.Replace(sum, "EVENT;", "", 1)
	checkRet(t, quiet, number(31), 30*6+3, number(30))
	checkRet(t, quiet, number(32), 31*6+3, number(31))
	checkEnd(t, quiet, api.Deep, 32*4, number(32))
	checkEnd(t, quiet, api.Deep, 32*4, number(255))
	// The step of the call that is too deep is begun; but not, where there is no fuel for it.
	checkOut(t, quiet, []api.Val{number(32)}, nil, 32*4, api.Outcome{Status: api.Deep, Steps: 32 * 4})
	checkOut(t, quiet, []api.Val{number(32)}, nil, 32*4-1, api.Outcome{Status: api.NoFuel, Steps: 32*4 - 1})
	loud := strings.Replace(sum, "EVENT", "%9 = call x()", 1)
	checkOut(t, loud, []api.Val{number(31)}, nil, enough, api.Outcome{Ret: number(32), Events: []api.Event{{}}, Steps: 31*6 + 4})
	// Calls that are over don't count: each of these is deep by 32, one behind the other.
	behind := "func f() i8;b0:;%0 = call g(30);%1 = call g(30);%2 = call g(30);%3 = add i8 %0, %2;ret i8 %3;end;" + strings.ReplaceAll(strings.Replace(quiet, "extern x() i8;", "", 1), "f(", "g(")
	checkRet(t, behind, number(62), 5+3*(30*6+3))
	// Of two functions that call each other.
	checkEnd(t, "func f() void;b0:;call g();ret;end;func g() void;b0:;call f();ret;end", api.Deep, 32)
}

// P11.1: a call of an extern is an event, with what the globals are then; the script's reply is what comes of it.
func TestEvents(t *testing.T) {
	text := "global g 2;global h 1;extern x() void;extern y(i8, i16) i4;func f(i8) i4;b0:;%1 = call y(%0, 500);store i8 3, @h;call x();%2 = call y(1, 2);ret i4 %2;end"
	y := func(a, b api.Val, vars ...[]api.Byte) api.Event {
		return api.Event{Extern: 1, Args: []api.Val{a, b}, Vars: vars}
	}
	x := func(vars ...[]api.Byte) api.Event { return api.Event{Extern: 0, Vars: vars} }
	old, now := [][]api.Byte{numbers(0, 0), numbers(0)}, [][]api.Byte{numbers(0, 0), numbers(3)}
	events := []api.Event{y(some, number(500), old...), x(now...), y(number(1), number(2), now...)}
	// No reply is the zero one; and replies beyond the events do nothing.
	checkOut(t, text, []api.Val{some}, nil, enough, api.Outcome{Ret: number(0), Events: events, Vars: now, Steps: 5})
	script := []api.Reply{{Ret: 7}, {Ret: 8}, {Ret: 255}, {Ret: 9, Writes: []api.Write{{Bits: 9}}}}
	checkOut(t, text, []api.Val{some}, script, enough, api.Outcome{Ret: number(15), Events: events, Vars: now, Steps: 5})
	checkOut(t, text, []api.Val{some}, script[:2], enough, api.Outcome{Ret: number(0), Events: events, Vars: now, Steps: 5})
	checkOut(t, text, []api.Val{some}, nil, 2, api.Outcome{Status: api.NoFuel, Events: events[:1], Steps: 2})
	// Poison isn't told.
	checkOut(t, text, nil, script, enough, api.Outcome{Status: api.Undef, Steps: 1})
	checkOut(t, strings.Replace(text, "y(1, 2)", "y(1, poison)", 1), []api.Val{number(4)}, script, enough, api.Outcome{Status: api.Undef, Events: []api.Event{y(number(4), number(500), old...), x(now...)}, Steps: 4})
}

// P11.1: what an extern answers is as wide as its type.
func TestReplyWidth(t *testing.T) {
	for typ, want := range map[string]uint64{"i1": 1, "i8": 255, "i63": math.MaxUint64 >> 1, "i64": math.MaxUint64} {
		text := "extern x() " + typ + ";func f() " + typ + ";b0:;%0 = call x();ret " + typ + " %0;end"
		checkOut(t, text, nil, []api.Reply{{Ret: math.MaxUint64}}, enough, api.Outcome{Ret: number(want), Events: []api.Event{{}}, Steps: 2})
	}
}

// P11.1: the outside writes bytes of globals, in order, and nowhere else.
func TestWrites(t *testing.T) {
	text := "global g 2;global h 8;extern x() void;func f() i8;b0:;%0 = alloca 2;store i8 6, %0;store ptr @g, @h;call x();%1 = load i8 %0;ret i8 %1;end"
	before := [][]api.Byte{numbers(0, 0), pieces(0, 0)}
	check := func(after [][]api.Byte, writes ...api.Write) {
		t.Helper()
		event := api.Event{Vars: before}
		checkOut(t, text, nil, []api.Reply{{Writes: writes}}, enough, api.Outcome{Ret: number(6), Events: []api.Event{event}, Vars: after, Steps: 6})
	}
	check(before)
	for _, n := range []int{math.MinInt, -1, 2, 3, 1 << 32, math.MaxInt} {
		check(before, api.Write{Var: n, At: 0, Bits: 9})
		check(before, api.Write{Var: 0, At: n, Bits: 9})
	}
	check([][]api.Byte{numbers(0, 5), before[1]}, api.Write{At: 1, Bits: 5})
	check([][]api.Byte{numbers(4, 5), before[1]}, api.Write{At: 1, Bits: 3}, api.Write{At: 2, Bits: 7}, api.Write{At: 0, Bits: 4}, api.Write{At: 1, Bits: 5})
	after := append(append(pieces(0, 0)[:2:2], numbers(1)...), pieces(0, 0)[3:]...)
	check([][]api.Byte{numbers(0, 0), after}, api.Write{Var: 1, At: 2, Bits: 1})
}

// P11.1: when a call is over the blocks that it made are no more, and nothing leads to them.
func TestOver(t *testing.T) {
	g := ";func g() ptr;b0:;%0 = alloca 8;BODY;ret ptr RET;end"
	with := func(head, body, ret string) string {
		return head + strings.NewReplacer("BODY", body, "RET", ret).Replace(g)
	}
	answers := "func f() ptr;b0:;%0 = call g();ret ptr %0;end"
	checkRet(t, with(answers, "store i8 1, %0", "%0"), poison, 5)
	checkRet(t, with(answers, "%1 = gep %0, 99", "%1"), poison, 5)
	checkRet(t, with(answers, "%1 = gep null, 99", "%1"), addr(-1, 99), 5)
	checkRet(t, with(answers, "store i8 1, %0", "null"), null, 5)
	checkRet(t, with(answers, "%1 = freeze ptr poison", "%1"), some, 5)
	// So it is poison already for the one who called.
	frozen := "func f() ptr;b0:;%0 = call g();%1 = freeze ptr %0;ret ptr %1;end"
	checkRet(t, with(frozen, "store i8 1, %0", "%0"), some, 6)
	// What was laid of it is poison, too.
	kept := "global g 16;func f() ptr;b0:;%0 = call g();%1 = load ptr @g;%2 = freeze ptr %1;ret ptr %2;end"
	vars := [][]api.Byte{append(make([]api.Byte, 8), numbers(0, 0, 0, 0, 0, 0, 0, 0)...)}
	checkOut(t, with(kept, "store ptr %0, @g", "@g"), nil, nil, enough, api.Outcome{Ret: some, Vars: vars, Steps: 7})
	checkOut(t, with("global g 2;"+answers, "store i8 1, %0", "@g"), nil, nil, enough, api.Outcome{Ret: addr(0, 0), Vars: [][]api.Byte{numbers(0, 0)}, Steps: 5})
	// What the caller made stays.
	handed := "func f() i1;b0:;%0 = alloca 8;%1 = call g(%0);store i8 1, %0;%2 = eq ptr %0, %1;ret i1 %2;end;func g(ptr) ptr;b0:;%1 = alloca 8;store ptr %1, %0;ret ptr %0;end"
	checkRet(t, handed, number(1), 8)
	checkRet(t, strings.Replace(handed, "store i8 1, %0", "%9 = load ptr %0;%8 = eq ptr %9, null", 1), number(1), 9)
}

// P11.1: none but a call's own Allocas' blocks are freed with it, whatever it calls.
func TestOverInOrder(t *testing.T) {
	text := "func f() i8;b0:;%0 = alloca 1;store i8 5, %0;%1 = call g(2);%2 = load i8 %0;%3 = add i8 %1, %2;ret i8 %3;end;" +
		"func g(i8) i8;b0:;%1 = alloca 1;%2 = alloca 1;store i8 %0, %1;store i8 1, %2;%3 = eq i8 %0, 0;brif %3, b1, b2;b1:;ret i8 0;b2:;%4 = sub i8 %0, 1;%5 = call g(%4);%6 = load i8 %1;%7 = load i8 %2;%8 = add i8 %6, %7;%9 = add i8 %8, %5;ret i8 %9;end"
	checkRet(t, text, number(5+3+2), 6+13*2+7)
}

// P11.1: a piece of an address that an Alloca made isn't seen by the outside, though the program itself still has it.
func TestSeenFromOutside(t *testing.T) {
	text := "global g 8;global h 9;extern x() void;func f(ptr) i8;b0:;%1 = alloca 4;store i8 4, %1;store ptr %1, @g;store ptr %0, @h;call x();%2 = load ptr @g;%3 = load i8 %2;ret i8 %3;end"
	for _, of := range []api.Val{addr(0, 3), addr(1, -1), null, addr(-1, 7)} {
		h := append(pieces(of.Block, of.Off), numbers(0)...)
		event := api.Event{Vars: [][]api.Byte{make([]api.Byte, 8), h}}
		checkOut(t, text, []api.Val{of}, nil, enough, api.Outcome{Ret: number(4), Events: []api.Event{event}, Vars: [][]api.Byte{make([]api.Byte, 8), h}, Steps: 8})
	}
	// A piece here and there, among other bytes.
	half := "global g 10;extern x() void;func f() void;b0:;%0 = alloca 4;%1 = gep @g, 1;store ptr %0, %1;%2 = gep @g, 3;store i16 513, %2;call x();store ptr null, @g;ret;end"
	seen := append(append(append(numbers(0), make([]api.Byte, 2)...), numbers(1, 2)...), append(make([]api.Byte, 4), numbers(0)...)...)
	after := append(append(pieces(-1, 0), make([]api.Byte, 1)...), numbers(0)...)
	checkOut(t, half, nil, nil, enough, api.Outcome{Events: []api.Event{{Vars: [][]api.Byte{seen}}}, Vars: [][]api.Byte{after}, Steps: 8})
}

// P11.1: an address that is any isn't one of a block, so it is answered; the one that it may be, of a block that is no more, isn't. (That P11.3 doesn't hold of these two is what these rules say.)
func TestLostAddress(t *testing.T) {
	text := "func f(i1) ptr;b0:;%1 = alloca 1;%2 = select ptr %0, %1, null;ret ptr %2;end"
	checkRet(t, text, some, 3, some)
	checkRet(t, text, poison, 3, number(1))
	checkRet(t, text, null, 3, number(0))
}

// P11.1: what was told stays as it was told, whatever comes of memory behind it.
func TestToldStays(t *testing.T) {
	text := "global g 1;extern x(i8) void;func f() void;b0:;call x(1);store i8 2, @g;call x(2);store i8 3, @g;call x(3);store i8 4, @g;ret;end"
	var events []api.Event
	for n, b := range []byte{0, 2, 3} {
		events = append(events, api.Event{Args: []api.Val{number(uint64(n) + 1)}, Vars: [][]api.Byte{numbers(b)}})
	}
	checkOut(t, text, nil, nil, enough, api.Outcome{Events: events, Vars: [][]api.Byte{numbers(4)}, Steps: 7})
}
