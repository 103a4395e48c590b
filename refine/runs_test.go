package refine_test

import (
	"strings"
	"testing"

	"lathe/api"
	"lathe/parse"
	"lathe/refine"
	"lathe/run"
	"lathe/verify"
)

const enough = 600

// read reads a program, whose lines are separated by semicolons, and which is right.
func read(t *testing.T, text string) api.Module {
	t.Helper()
	m, fault := parse.Parse(strings.ReplaceAll(text, ";", "\n"))
	if code, place := verify.Check(m); fault != (api.Fault{}) || code != api.OK {
		t.Fatalf("%q: %v, %v at %v", text, fault, code, place)
	}
	return m
}

// argsOf are values of a type of few numbers; addresses are null, and such of two globals.
func argsOf(typ int) []api.Val {
	list := []api.Val{poison, some}
	if typ == api.Ptr {
		return append(list, null, addr(0, 0), addr(1, 0), addr(1, 1))
	}
	for n := range 1 << typ {
		list = append(list, number(uint64(n)))
	}
	return list
}

// rows are all rows of arguments of these types.
func rows(types []int) [][]api.Val {
	list := [][]api.Val{nil}
	for _, typ := range types {
		var longer [][]api.Val
		for _, row := range list {
			for _, v := range argsOf(typ) {
				longer = append(longer, append(row[:len(row):len(row)], v))
			}
		}
		list = longer
	}
	return list
}

func rowByWords(row, by []api.Val) bool {
	for i, v := range row {
		if !valueByWords(v, by[i]) {
			return false
		}
	}
	return true
}

var script = []api.Reply{{Ret: 2, Writes: []api.Write{{Var: 0, Bits: 1}}}, {Ret: 1, Writes: []api.Write{{Var: 1, At: 3, Bits: 9}}}}

// checkRows runs function 0 with all rows of arguments, and asks of all pairs whether the better one's outcome refines the other's; it shows each pair.
func checkRows(t *testing.T, m api.Module, show func(o, by api.Outcome)) {
	t.Helper()
	rows := rows(m.Funcs[0].Params)
	outcomes := make([]api.Outcome, len(rows))
	for i, row := range rows {
		outcomes[i] = run.Run(m, 0, row, script, enough)
	}
	for i, row := range rows {
		for j, by := range rows {
			if !rowByWords(row, by) {
				continue
			}
			if !refine.Refines(outcomes[i], outcomes[j]) {
				t.Fatalf("with %v: %v; but with %v: %v; %v", row, outcomes[i], by, outcomes[j], m)
			}
			show(outcomes[i], outcomes[j])
		}
	}
}

// P12.3: programs of which it is known how they end with poison, with any, with 0 and with 1.
func TestKnownRuns(t *testing.T) {
	for text, want := range map[string][]int{
		"func f(i1) i1;b0:;%1 = add nsw i1 %0, 1;ret i1 %1;end":                                                                             {api.Done, api.Done, api.Done, api.Done},
		"func f(i1) i1;b0:;%1 = freeze i1 %0;ret i1 %1;end":                                                                                 {api.Done, api.Done, api.Done, api.Done},
		"func f(i1) i1;b0:;%1 = udiv i1 1, %0;ret i1 %1;end":                                                                                {api.Undef, api.Loose, api.Undef, api.Done},
		"func f(i1) void;b0:;brif %0, b1, b2;b1:;halt;b2:;ret;end":                                                                          {api.Undef, api.Loose, api.Done, api.Undef},
		"func f(i1) void;b0:;brif %0, b1, b2;b1:;br b1;b2:;ret;end":                                                                         {api.Undef, api.Loose, api.Done, api.NoFuel},
		"func f(i1) void;b0:;brif %0, b1, b2;b1:;call f(%0);ret;b2:;ret;end":                                                                {api.Undef, api.Loose, api.Done, api.Deep},
		"func f(i1) void;b0:;%1 = select ptr %0, null, null;store i8 1, %1;ret;end":                                                         {api.Undef, api.Undef, api.Undef, api.Undef},
		"global g 1;func f(i1) void;b0:;%1 = select ptr %0, null, @g;store i8 1, %1;ret;end":                                                {api.Undef, api.Loose, api.Done, api.Undef},
		"global g 1;func f(i1) i1;b0:;store i1 %0, @g;%1 = load i1 @g;ret i1 %1;end":                                                        {api.Done, api.Done, api.Done, api.Done},
		"extern x(i1) i1;func f(i1) i1;b0:;%1 = call x(%0);ret i1 %1;end":                                                                   {api.Undef, api.Done, api.Done, api.Done},
		"global g 1;extern x() i1;func f(i1) i1;b0:;store i1 %0, @g;%1 = call x();brif %0, b1, b2;b1:;%2 = call x();halt;b2:;ret i1 %1;end": {api.Undef, api.Loose, api.Done, api.Undef},
	} {
		m := read(t, text)
		for i, row := range rows([]int{1}) {
			if out := run.Run(m, 0, row, script, enough); out.Status != want[i] {
				t.Error(text, row, out)
			}
		}
		checkRows(t, m, func(o, by api.Outcome) {})
	}
}

// P12.3: programs of any data, with all arguments and all that refine them. P12.1: what comes of them, by the words, the one way and the other.
func TestRunsWithBetter(t *testing.T) {
	r, met, better := seeded(123), map[[2]int]int{}, 0
	for range 700 {
		checkRows(t, read(t, r.program()), func(o, by api.Outcome) {
			met[[2]int{o.Status, by.Status}]++
			if o.Status == api.Done && !refine.Refines(by, o) {
				better++
			}
			if refine.Refines(o, by) != refinesByWords(o, by) || refine.Refines(by, o) != refinesByWords(by, o) {
				t.Fatal(o, by)
			}
		})
	}
	for _, pair := range [][2]int{
		{api.Done, api.Done}, {api.Deep, api.Deep}, {api.NoFuel, api.NoFuel},
		{api.Undef, api.Done}, {api.Undef, api.Undef}, {api.Undef, api.NoFuel}, {api.Undef, api.Deep}, {api.Undef, api.Loose},
		{api.Loose, api.Done}, {api.Loose, api.Undef}, {api.Loose, api.NoFuel}, {api.Loose, api.Deep}, {api.Loose, api.Loose},
	} {
		if met[pair] < 100 {
			t.Error("hardly any pair ends with", pair, met)
		}
	}
	if better < 5000 {
		t.Error("hardly any outcome is better", better)
	}
}

// P12.3: where chapter 11's rules rule it out: an address that is any is no block's, so a call answers it; the one that it may be, of a block that is no more, becomes poison. By P12.1 poison doesn't stand for any.
func TestLostAddress(t *testing.T) {
	m := read(t, "func f(i1) ptr;b0:;%1 = alloca 1;%2 = select ptr %0, %1, null;ret ptr %2;end")
	unknown := run.Run(m, 0, []api.Val{some}, nil, enough)
	for n, want := range []bool{true, false} {
		check(t, unknown, run.Run(m, 0, []api.Val{number(uint64(n))}, nil, enough), want)
	}
}
