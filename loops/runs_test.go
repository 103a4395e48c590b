package loops_test

import (
	"slices"
	"testing"

	"lathe/api"
	"lathe/ir"
	"lathe/loops"
	"lathe/refine"
	"lathe/run"
)

// fuel is what modules are run with; made simple they get enough to do the same.
const (
	fuel   = 300
	enough = 6 * fuel
)

func number(n uint64) api.Val { return api.Val{Kind: api.IsInt, Bits: n} }

// args are some for the Params of the modules that are made, or of no use for them.
func (r maker) args() []api.Val {
	some := api.Val{Kind: api.IsAny}
	small, bit := number(uint64(r.Intn(256))), number(uint64(r.Intn(2)))
	at := api.Val{Kind: api.IsAddr, Block: oneOf(r, 0, 1, 1, 1, -1)}
	return []api.Val{oneOf(r, small, small, small, some, api.Val{}), oneOf(r, bit, bit, bit, bit, some, api.Val{}), oneOf(r, at, at, at, some, api.Val{})}
}

func (r maker) script() []api.Reply {
	var script []api.Reply
	for range r.Intn(30) {
		script = append(script, api.Reply{Ret: uint64(r.Intn(256)), Writes: []api.Write{{Var: 1, At: r.Intn(9), Bits: byte(r.Intn(256))}}})
	}
	return script
}

// checkRuns: outcomes refine each other, both ways, when the fuel is enough; else all that was told by then is told.
func checkRuns(t *testing.T, m, simple api.Module, args []api.Val, script []api.Reply) api.Outcome {
	t.Helper()
	was, is := run.Run(m, 0, args, script, fuel), run.Run(simple, 0, args, script, enough)
	bothWays := was.Status == api.NoFuel || refine.Refines(is, was)
	if !refine.Refines(was, is) || !bothWays || was.Status != api.NoFuel && is.Status != was.Status {
		t.Fatalf("with %v, %v: %v; made simple: %v; %v", args, script, was, is, m)
	}
	if less := run.Run(simple, 0, args, script, fuel); !refine.Refines(was, less) || !refine.Refines(less, is) {
		t.Fatalf("with %v, %v: %v; made simple, and with little fuel: %v; %v", args, script, was, less, m)
	}
	return was
}

// P13.2: the runs of a module with functions made simple have outcomes that refine those of the module, and the other way round, but for fuel.
func TestSimpleRuns(t *testing.T) {
	r, met, round := seeded(132), map[int]int{}, 0
	eachModule(t, 3000, func(m api.Module) {
		simple := ir.Copy(m)
		simple.Funcs[0] = loops.Simple(m.Funcs[0])
		if ir.Size(simple.Funcs[0]) > api.MaxCode || ir.SameFunc(simple.Funcs[0], m.Funcs[0]) {
			return
		}
		for range 6 {
			out := checkRuns(t, m, simple, r.args(), r.script())
			met[out.Status]++
			if out.Status == api.Done && out.Steps > ir.Size(m.Funcs[0]) {
				round++
			}
		}
	})
	for _, status := range []int{api.Done, api.Undef, api.NoFuel, api.Loose} {
		if met[status] < 100 {
			t.Error("hardly any run ends with", status, met)
		}
	}
	if round < 400 {
		t.Error("hardly any run goes round:", round)
	}
}

// P13.2: a loop that is come to in two ways, whose Phis hang on each other: how often it goes round, and with what, hangs on the way.
func TestSimpleKnownRuns(t *testing.T) {
	m := read(t, "extern x(i8) void;func f(i8, i1) i8;b0:;brif %1, b1, b2;b1:;br b3;b2:;%2 = mul i8 %0, 2;br b3;b3:;%3 = phi i8 b1 %0, b2 %2, b3 %4;%4 = phi i8 b1 9, b2 1, b3 %3;%5 = phi i8 b1 0, b2 0, b3 %6;call x(%3);%6 = add i8 %5, 1;%7 = ult i8 %6, 3;brif %7, b3, b4;b4:;ret i8 %4;end")
	simple := ir.Copy(m)
	simple.Funcs[0] = loops.Simple(m.Funcs[0])
	if len(simple.Funcs[0].Blocks) != 6 {
		t.Fatal(simple)
	}
	for bit, want := range [][]uint64{{10, 1, 10}, {5, 9, 5}} {
		args := []api.Val{number(5), number(uint64(bit))}
		checkRuns(t, m, simple, args, nil)
		out := run.Run(simple, 0, args, nil, enough)
		var told []uint64
		for _, e := range out.Events {
			told = append(told, e.Args[0].Bits)
		}
		if out.Status != api.Done || !slices.Equal(told, want) || out.Ret != number(want[1]) {
			t.Error(bit, out)
		}
	}
}
