package fold_test

import (
	"reflect"
	"slices"
	"testing"

	"lathe/api"
	"lathe/fold"
	"lathe/ir"
	"lathe/refine"
	"lathe/run"
	"lathe/samples"
	"lathe/spell"
	"lathe/verify"
)

// checkFold holds one call against the words, asks that what is handed in stays, and tells whether it folds.
func checkFold(t *testing.T, in api.Instr) bool {
	t.Helper()
	before := in
	before.Args, before.To = slices.Clone(in.Args), slices.Clone(in.To)
	got, ok := fold.Fold(in)
	if want, wantOk := foldByWords(in); got != want || ok != wantOk {
		t.Fatalf("Fold of %v: %v, %v, not %v, %v", in, got, ok, want, wantOk)
	}
	if !reflect.DeepEqual(in, before) {
		t.Fatal("what is handed in is changed:", in, before)
	}
	return ok
}

// P15.1: Fold of every operation, of types and flags of all kinds, with all rows of operands.
func TestFoldByWords(t *testing.T) {
	all, folds := operands(), 0
	for op := range 36 {
		for _, typ := range []int{0, 1, 8, 64, api.Ptr, 66} {
			for _, flags := range []int{0, 1, 3, 4} {
				if op == api.Select && flags > 1 {
					continue
				}
				for _, n := range []int{0, 4, 9} {
					rows(all, countOf(op), func(args []api.Value) {
						if checkFold(t, api.Instr{Op: op, Reg: 3, Type: typ, N: n, Flags: flags, Args: args}) {
							folds++
						}
					})
				}
			}
		}
	}
	if folds < 100000 {
		t.Error("hardly any fold:", folds)
	}
}

// P15.1: Fold of every instruction, of any data.
func TestFoldAnyByWords(t *testing.T) {
	r, folds := samples.New(151), 0
	const times = 200000
	for range times {
		if checkFold(t, instr(r)) {
			folds++
		}
	}
	if folds < times/10 || folds > times*9/10 {
		t.Error("of", times, "fold", folds)
	}
}

// P15.1 and P15.3: what an instruction of literals folds to refines what a run makes of it; of those that are calm only a Gep's may not fold.
func TestFoldByRuns(t *testing.T) {
	r, folds := samples.New(152), 0
	for range 200000 {
		in := instr(r)
		in.Reg = 0
		m := api.Module{Vars: []api.Var{{Name: "g", Size: 1}, {Name: "h", Size: 2}}, Funcs: []api.Func{answers(in)}}
		if code, _ := verify.Check(m); code != api.OK {
			continue
		}
		out := run.Run(m, 0, nil, nil, 9)
		v, ok := fold.Fold(in)
		if !ok {
			if ir.Calm(in.Op) && in.Op != api.Gep && in.Op != api.Call {
				t.Fatal("it doesn't fold:", in)
			}
			continue
		}
		folds++
		code := m.Funcs[0].Blocks[0].Code
		code[1].Args[0] = v
		m.Funcs[0].Blocks[0].Code = code[1:]
		if by := run.Run(m, 0, nil, nil, 9); out.Status != api.Done || by.Status != api.Done || !refine.Refines(out, by) {
			t.Fatal(in, "folds to", v, out, by)
		}
	}
	if folds < 10000 {
		t.Error("hardly any fold:", folds)
	}
}

// answers is a function without arguments that answers what one instruction makes.
func answers(in api.Instr) api.Func {
	t := ir.Result(in)
	ret := api.Instr{Op: api.Ret, Reg: -1, Type: t, Args: []api.Value{reg(0)}}
	return api.Func{Name: "f", Ret: t, Blocks: []api.Block{{Code: []api.Instr{in, ret}}}}
}

// eachRight shows functions of right modules, the same ones in every run.
func eachRight(seed uint64, times int, show func(f api.Func)) {
	r := samples.New(seed)
	for range times {
		for _, f := range r.Module().Funcs {
			show(f)
		}
		show(numbers(r, 20))
	}
}

// P15.1: All of functions of right modules answers what the chapter's words tell; what is handed in stays.
func TestAllByWords(t *testing.T) {
	goes := 0
	eachRight(153, 3000, func(f api.Func) {
		before := ir.CopyFunc(f)
		got := fold.All(f)
		if want := allByWords(f); !ir.SameFunc(got, want) {
			t.Fatalf("All of %v: %v, not %v", f, got, want)
		}
		if !reflect.DeepEqual(f, before) {
			t.Fatal("what is handed in is changed", f, before)
		}
		goes += ir.Size(f) - ir.Size(got)
	})
	if goes < 20000 {
		t.Error("hardly any fold:", goes)
	}
}

// P1: All ends, and neither panics nor changes what is handed in, whatever that is; what it answers is new memory.
func TestAllOfAnyData(t *testing.T) {
	r := samples.New(154)
	for range 10000 {
		f := r.Wild()
		for b := range f.Blocks {
			for range r.Below(4) {
				f.Blocks[b].Code = append(f.Blocks[b].Code, instr(r))
			}
		}
		before := ir.CopyFunc(f)
		one, other := fold.All(f), fold.All(f)
		if !reflect.DeepEqual(f, before) {
			t.Fatal("what is handed in is changed", f, before)
		}
		if samples.Shares(f, one, other) {
			t.Fatal("lists share memory", before)
		}
	}
}

// P1: what All answers of functions of right modules is new memory.
func TestAllNewMemory(t *testing.T) {
	eachRight(155, 500, func(f api.Func) {
		if samples.Shares(f, fold.All(f), fold.All(f)) {
			t.Fatal("lists share memory")
		}
	})
}

// P15.2: nothing that All answers folds; it has as many blocks, and no more instructions; All of it again is the same.
func TestNothingFolds(t *testing.T) {
	eachRight(156, 3000, func(f api.Func) {
		got := fold.All(f)
		for _, block := range got.Blocks {
			for _, in := range block.Code {
				if v, ok := fold.Fold(in); ok {
					t.Fatal(in, "folds to", v, "in", got)
				}
			}
		}
		if len(got.Blocks) != len(f.Blocks) || ir.Size(got) > ir.Size(f) || got.Name != f.Name || got.Ret != f.Ret || !slices.Equal(got.Params, f.Params) {
			t.Fatal(f, "becomes", got)
		}
		if again := fold.All(got); !ir.SameFunc(again, got) {
			t.Fatal(got, "becomes", again)
		}
	})
}

// P15.3: a right module with functions folded is right, and its runs refine the module's. (None of these meets the corner of TestLostAddress.)
func TestRuns(t *testing.T) {
	r, tally := samples.New(157), samples.Tally{}
	for range 3000 {
		m := r.Module()
		is := folded(m)
		if code, at := verify.Check(is); code != api.OK {
			t.Fatal("not right", code, at, spell.Text(m))
		}
		if in, worse := r.Worse(m, is, 4, &tally); worse {
			t.Fatalf("with %v another outcome:\n%s\n%s", in, spell.Text(m), spell.Text(is))
		}
	}
	if tally[api.Done] < 5000 || tally[api.Undef] < 500 || tally[api.Loose] < 30 {
		t.Error("hardly any run ends so:", tally)
	}
}

// P7: a function of literals is its answer alone, and that refines what its run answers.
func TestFunctionOfLiterals(t *testing.T) {
	r, other := samples.New(158), 0
	for range 10000 {
		f := numbers(r, 30)
		m := api.Module{Funcs: []api.Func{f}}
		if code, at := verify.Check(m); code != api.OK {
			t.Fatal("not right", code, at, f)
		}
		out := run.Run(m, 0, nil, nil, 99)
		is := folded(m)
		if code := is.Funcs[0].Blocks[0].Code; len(code) != 1 || code[0].Args[0].Kind == api.Reg {
			t.Fatal(f, "becomes", is)
		}
		by := run.Run(is, 0, nil, nil, 1)
		if out.Status != api.Done || by.Status != api.Done || !refine.Value(out.Ret, by.Ret) {
			t.Fatal(f, out, by)
		}
		if out.Ret.Kind == api.IsAny {
			other++
		}
	}
	if other < 100 {
		t.Error("hardly any answers any:", other)
	}
}
