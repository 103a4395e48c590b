package run_test

import (
	"slices"
	"strconv"
	"strings"
	"testing"

	"lathe/api"
	"lathe/run"
)

// counting is a loop of so many rounds, with lines of its own ahead of its end; %2 counts from 1 on.
func counting(head, name, body string, rounds int) string {
	return head + "func " + name + "() i32;b0:;br b1;b1:;%1 = phi i32 b0 0, b1 %2;%2 = add i32 %1, 1;" + body + "%3 = ult i32 %2, " + strconv.Itoa(rounds) + ";brif %3, b1, b2;b2:;ret i32 %2;end"
}

// P11.1: very many steps.
func TestManySteps(t *testing.T) {
	const rounds = 1 << 20
	m := read(t, counting("", "f", "", rounds))
	want := api.Outcome{Ret: number(rounds), Steps: 4*rounds + 2}
	if out := run.Run(m, 0, nil, nil, 1<<30); !same(out, want) {
		t.Error(out)
	}
	if out := run.Run(m, 0, nil, nil, 4*rounds+1); !same(out, api.Outcome{Status: api.NoFuel, Steps: 4*rounds + 1}) {
		t.Error(out)
	}
}

// P11.1: very many calls, each with a block of its own and a register of the greatest number.
func TestManyCalls(t *testing.T) {
	const rounds = 1 << 18
	m := read(t, counting("global g 8;", "f", "%5 = call h(%2);", rounds)+";func h(i32) i32;b0:;%4095 = alloca 64;store ptr %4095, @g;store i32 %0, %4095;%1 = load i32 %4095;ret i32 %1;end")
	want := api.Outcome{Ret: number(rounds), Vars: [][]api.Byte{make([]api.Byte, 8)}, Steps: 10*rounds + 2}
	if out := run.Run(m, 0, nil, nil, 1<<30); !same(out, want) {
		t.Error(out)
	}
}

// P11.1: many events, of all externs, with as many globals as there may be, each of them as it is then.
func TestManyEvents(t *testing.T) {
	const rounds = 400
	var head, body strings.Builder
	for n := range api.MaxVars {
		i := strconv.Itoa(n)
		head.WriteString("global g" + i + " 64;extern x" + i + "(i32, i32) i64;")
		body.WriteString("store i32 %2, @g" + i + ";%" + strconv.Itoa(10+n) + " = call x" + i + "(%1, %2);")
	}
	m := read(t, counting(head.String(), "f", body.String(), rounds))
	script := make([]api.Reply, 8*rounds)
	for n := range script {
		script[n] = api.Reply{Ret: uint64(n), Writes: []api.Write{{Var: n % 8, At: 63, Bits: byte(n)}}}
	}
	out := run.Run(m, 0, nil, script, 1<<30)
	if out.Status != api.Done || len(out.Events) != 8*rounds {
		t.Fatal(out.Status, len(out.Events))
	}
	for n, e := range out.Events {
		round := n/8 + 1
		isEvent := e.Extern == n%8 && slices.Equal(e.Args, []api.Val{number(uint64(round) - 1), number(uint64(round))})
		if !isEvent || e.Vars[n%8][0].Bits != byte(round) || n >= 8 && e.Vars[n%8][63].Bits != byte(n-8) {
			t.Fatal(n, e)
		}
	}
	checkByWords(t, m, 0, nil, script[:100], 5000)
}

// P11.1: as many functions, parameters, instructions and blocks as there may be.
func TestGreatModule(t *testing.T) {
	const links = api.MaxCode - api.MaxBlocks
	body := "(" + strings.Repeat("i8, ", 7) + "i8) i8;b0:;%8 = sub i8 %7, %0;"
	for n := 1; n < links; n++ {
		body += "%" + strconv.Itoa(8+12*n) + " = add i8 %" + strconv.Itoa(8+12*(n-1)) + ", 1;"
	}
	for b := 1; b < api.MaxBlocks; b++ {
		body += "br b" + strconv.Itoa(b) + ";b" + strconv.Itoa(b) + ":;"
	}
	var text, calls strings.Builder
	for n := 1; n < api.MaxFuncs; n++ {
		i := strconv.Itoa(n)
		text.WriteString("func f" + i + body + "ret i8 %" + strconv.Itoa(8+12*(links-1)) + ";end;")
		calls.WriteString("%" + i + " = call f" + i + "(1, 2, 3, 4, 5, 6, 7, " + i + ");")
	}
	whole := "func f() i8;b0:;" + calls.String() + "ret i8 %7;end;" + text.String()
	checkRet(t, whole, number((6+links-1)%256), 7*(api.MaxCode+1)+1)
}
