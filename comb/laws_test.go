package comb_test

import (
	"math"
	"reflect"
	"slices"
	"testing"

	"lathe/api"
	"lathe/comb"
	"lathe/ir"
	"lathe/samples"
	"lathe/spell"
	"lathe/verify"
)

// eachModule shows right modules, the same ones in every run: small ones, some great ones, and such as have Loads, Stores and Calls of functions.
func eachModule(t *testing.T, seed uint64, times int, show func(m api.Module)) {
	t.Helper()
	r := samples.New(seed)
	for n := range times {
		most := 6
		if n%16 == 0 {
			most = 40
		}
		m := module(r, most)
		if code, at := verify.Check(m); code != api.OK {
			t.Fatal("not right", code, at, spell.Text(m))
		}
		show(m)
		if n%4 == 0 {
			show(r.Module())
		}
	}
}

// eachRight shows the functions of these modules.
func eachRight(t *testing.T, seed uint64, times int, show func(f api.Func)) {
	t.Helper()
	eachModule(t, seed, times, func(m api.Module) {
		for _, f := range m.Funcs {
			show(f)
		}
	})
}

// eachPlace shows all places of a function, and some where nothing is.
func eachPlace(f api.Func, show func(p api.Place)) {
	for _, n := range []int{math.MinInt, -1, len(f.Blocks), math.MaxInt} {
		show(api.Place{Block: n})
	}
	for b, block := range f.Blocks {
		for _, at := range []int{math.MinInt, -1, len(block.Code), math.MaxInt} {
			show(api.Place{Block: b, At: at})
		}
		for at := range block.Code {
			show(api.Place{Block: b, At: at, Func: at - 2})
		}
	}
}

// isSame tells whether two instructions are, nil and empty lists being one.
func isSame(a, b api.Instr) bool {
	of := func(in api.Instr) api.Func { return api.Func{Blocks: []api.Block{{Code: []api.Instr{in}}}} }
	return ir.SameFunc(of(a), of(b))
}

// checkMet asks that each rule was met as often as is told, and that there are no others. (Rule 11 is met where a register is frozen again.)
func checkMet(t *testing.T, met map[int]int, least int) {
	t.Helper()
	for rule := 1; rule <= 20; rule++ {
		if met[rule] < least {
			t.Error("rule", rule, "is hardly met:", met[rule])
		}
	}
}

// P16.1: Rule at each place of functions of right modules answers what the chapter's table tells; what is handed in stays.
func TestRuleByWords(t *testing.T) {
	met := map[int]int{}
	eachRight(t, 161, 6000, func(f api.Func) {
		before, w := ir.CopyFunc(f), readerOf(f)
		eachPlace(f, func(p api.Place) {
			got, how := comb.Rule(f, p)
			want, wantHow, rule := w.rule(p)
			if how != wantHow || !isSame(got, want) {
				t.Fatalf("Rule at %v of %v: %v, %v, not %v, %v by rule %v", p, f, got, how, want, wantHow, rule)
			}
			met[rule]++
		})
		if !reflect.DeepEqual(f, before) {
			t.Fatal("what is handed in is changed", f, before)
		}
	})
	checkMet(t, met, 50)
}

// P16.1: All of functions of right modules answers what the chapter's table tells, one instruction behind the other; what is handed in stays.
func TestAllByWords(t *testing.T) {
	met := map[int]int{}
	eachRight(t, 162, 6000, func(f api.Func) {
		before := ir.CopyFunc(f)
		got := comb.All(f)
		if want := allByWords(f, met); !ir.SameFunc(got, want) {
			t.Fatalf("All of %v: %v, not %v", f, got, want)
		}
		if !reflect.DeepEqual(f, before) {
			t.Fatal("what is handed in is changed", f, before)
		}
	})
	checkMet(t, met, 50)
}

// P16.1: answers are new memory.
func TestNewMemory(t *testing.T) {
	eachRight(t, 163, 400, func(f api.Func) {
		eachPlace(f, func(p api.Place) {
			f := ir.CopyFunc(f)
			one, _ := comb.Rule(f, p)
			other, _ := comb.Rule(f, p)
			if samples.Shares(f, api.Func{Blocks: []api.Block{{Code: []api.Instr{one}}, {Code: []api.Instr{other}}}}) {
				t.Fatal("Rule: lists share memory")
			}
		})
		if samples.Shares(f, comb.All(f), comb.All(f)) {
			t.Fatal("All: lists share memory")
		}
	})
}

// P16.2: no rule applies to what All answers; it has as many blocks, and no more instructions; All of it again is the same.
func TestNothingApplies(t *testing.T) {
	eachRight(t, 164, 3000, func(f api.Func) {
		got := comb.All(f)
		eachPlace(got, func(p api.Place) {
			if in, how := comb.Rule(got, p); how != 0 || !reflect.DeepEqual(in, api.Instr{}) {
				t.Fatal("a rule applies at", p, "of", got, in, how)
			}
		})
		if len(got.Blocks) != len(f.Blocks) || ir.Size(got) > ir.Size(f) || got.Name != f.Name || got.Ret != f.Ret || !slices.Equal(got.Params, f.Params) {
			t.Fatal(f, "becomes", got)
		}
		if again := comb.All(got); !ir.SameFunc(again, got) {
			t.Fatal(got, "becomes", again)
		}
	})
}

// combed is a module with all its functions combed.
func combed(m api.Module) api.Module {
	m = ir.Copy(m)
	for n, f := range m.Funcs {
		m.Funcs[n] = comb.All(f)
	}
	return m
}

// P16.3: a right module with functions combed is right, and its runs refine the module's. (None of these meets the corner of TestLostAddress.)
func TestRuns(t *testing.T) {
	r, tally, told := samples.New(165), samples.Tally{}, 0
	eachModule(t, 166, 3000, func(m api.Module) {
		is := combed(m)
		if code, at := verify.Check(is); code != api.OK {
			t.Fatal("not right", code, at, spell.Text(m), spell.Text(is))
		}
		if in, worse := r.Worse(m, is, 4, &tally); worse {
			t.Fatalf("with %v another outcome:\n%s\n%s", in, spell.Text(m), spell.Text(is))
		}
		told += ir.Size(m.Funcs[0]) - ir.Size(is.Funcs[0])
	})
	if tally[api.Done] < 5000 || tally[api.Undef] < 500 || tally[api.Loose] < 30 || told < 20000 {
		t.Error("hardly any run ends so, or hardly any instruction goes:", tally, told)
	}
}

// P1: both calls end, and neither panics nor changes what is handed in, whatever that is; what they answer is new memory.
func TestAnyData(t *testing.T) {
	r := samples.New(167)
	for range 10000 {
		f := r.Wild()
		for b := range f.Blocks {
			for range r.Below(4) {
				f.Blocks[b].Code = slices.Insert(f.Blocks[b].Code, 0, wild(r))
			}
		}
		before := ir.CopyFunc(f)
		eachPlace(f, func(p api.Place) {
			if in, how := comb.Rule(f, p); how < 0 || how > 2 || how == 0 != reflect.DeepEqual(in, api.Instr{}) {
				t.Fatal(f, p, in, how)
			}
		})
		one, other := comb.All(f), comb.All(f)
		if !ir.SameFunc(one, other) || len(one.Blocks) != len(f.Blocks) || ir.Size(one) > ir.Size(f) {
			t.Fatal(f, one, other)
		}
		if !reflect.DeepEqual(f, before) {
			t.Fatal("what is handed in is changed", f, before)
		}
		if samples.Shares(f, one, other) {
			t.Fatal("lists share memory", before)
		}
	}
}

// wild is much like what may be ruled, of registers so few that they make themselves.
func wild(r *samples.Maker) api.Instr {
	in := api.Instr{Op: 1 + r.Below(api.Gep), Reg: r.Below(4), Type: samples.OneOf(r, 0, 1, 8, 8, 8, 64, api.Ptr, 66, -1), N: samples.OneOf(r, 0, 1, 8, 64), To: []int{1, 2}}
	if r.In(10) {
		in.Flags = r.Below(9) - 1
	}
	operands := 2
	switch in.Op {
	case api.Zext, api.Sext, api.Trunc, api.Freeze:
		operands = 1
	case api.Select:
		operands = 3
	}
	if r.In(5) {
		operands = r.Below(4)
	}
	for range operands {
		in.Args = append(in.Args, samples.OneOf(r, reg(r.Below(4)), reg(r.Below(4)), number(uint64(r.Below(9))), number(r.Bits()), r.Value()))
	}
	return in
}
