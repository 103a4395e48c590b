package verify_test

import (
	"reflect"
	"slices"
	"strings"
	"testing"

	"lathe/api"
	"lathe/ir"
	"lathe/parse"
	"lathe/spell"
	"lathe/verify"
)

// checkByRules holds Check against the chapter's rules written once more, and what is right against what follows.
func checkByRules(t *testing.T, m api.Module, met map[string]int) {
	t.Helper()
	before := ir.Copy(m)
	want := firstByRules(m)
	met[want.rule]++
	code, place := verify.Check(m)
	if code != want.code || place != want.place {
		t.Fatalf("Check: %v at %v, not %v at %v (%s): %v", code, place, want.code, want.place, want.rule, m)
	}
	if again, there := verify.Check(m); again != code || there != place {
		t.Fatalf("Check: %v at %v, then %v at %v: %v", code, place, again, there, m)
	}
	if !ir.Same(m, before) {
		t.Fatalf("%v is changed to %v", before, m)
	}
	if code == api.OK {
		checkFollows(t, m)
	}
}

// checkFollows holds a right module against what the chapter says of all of them (P8.3, P8.2).
func checkFollows(t *testing.T, m api.Module) {
	t.Helper()
	for _, f := range m.Funcs {
		types, made := verify.Types(f), make([]int, api.MaxReg+1)
		for n := range f.Params {
			made[n]++
		}
		eachByRules(f, func(b, i int, in api.Instr) {
			if resultByRules(in) != 0 {
				made[in.Reg]++
			}
			for _, v := range in.Args {
				if v.Kind == api.Reg && types[v.N] == 0 {
					t.Fatal("a use of what isn't made", v.N, f)
				}
			}
			if isEnd(in.Op) != (i == len(f.Blocks[b].Code)-1) || isEnd(in.Op) && slices.Contains(in.To, 0) {
				t.Fatal("ends", f)
			}
		})
		if slices.Max(made) > 1 {
			t.Fatal("made twice", f)
		}
	}
	if !spell.Sayable(m) {
		t.Fatal("not sayable", m)
	}
	again, fault := parse.Parse(spell.Text(m))
	if fault != (api.Fault{}) || !ir.Same(again, m) {
		t.Fatalf("%q is read as %v, %v; not %v", spell.Text(m), fault, again, m)
	}
}

// P8.1, P8.2, P8.3: right modules, with loops, and with blocks that aren't reachable.
func TestRightModules(t *testing.T) {
	r, met := seeded(81), map[string]int{}
	for range 3000 {
		checkByRules(t, r.module(), met)
	}
	if met["right"] != 3000 {
		t.Error("not all were right:", met)
	}
}

// P8.1: right modules, with each number, text and list in turn changed to some of its edges.
func TestEachChange(t *testing.T) {
	r, met := seeded(82), map[string]int{}
	for range 8 {
		m := r.module()
		for _, s := range spotsOf(&m) {
			old := reflect.New(s.Type()).Elem()
			old.Set(s.Value)
			all := s.changes()
			r.Shuffle(len(all), func(i, k int) { all[i], all[k] = all[k], all[i] })
			for _, change := range all[:min(len(all), 4)] {
				s.Set(change)
				checkByRules(t, m, met)
			}
			s.Set(old)
		}
	}
	if met["right"] < 1000 {
		t.Error("too few were right:", met)
	}
}

// rulesMet are the rules each of which must come first several times.
var rulesMet = strings.Split("1 name,1 twice,1 size,2 name,2 twice,2 param,2 ret,3.2 nothing,3.2 end,3.2 other end,3.2 to,"+
	"3.3 op,3.3 args,3.3 to,3.3 phi,3.3 n,3.3 no reg,3.3 reg,3.3 alloca's block,3.3 alloca's size,3.3 fixed type,3.3 flags,3.3 type,3.3 conversion,3.3 ret,3.3 callee,3.3 call's type,3.3 call's args,"+
	"3.4 reg,3.4 twice,3.5 kind,3.5 n,3.5 bits,3.5 reg,3.5 reg's type,3.5 number for an address,3.5 great number,3.5 global,3.5 global for a number,3.5 null for a number,"+
	"3.6 behind,3.6 to,3.6 block 0,3.7 ahead,3.7 ahead of a phi,right", ",")

// P8.1: modules with several changes at once, so that it must be told which fault comes first.
func TestSeveralChanges(t *testing.T) {
	r, met := seeded(83), map[string]int{}
	for range 10000 {
		m := r.module()
		for range r.Intn(4) {
			oneOf(r, r.move, r.exchange)(&m)
		}
		r.spoil(&m, r.Intn(4))
		checkByRules(t, m, met)
	}
	for _, rule := range rulesMet {
		if met[rule] < 5 {
			t.Errorf("the rule %q was met %d times", rule, met[rule])
		}
	}
}

// P8.1: any data at all, for both calls: neither panics.
func TestWildData(t *testing.T) {
	r := seeded(84)
	wild := func() int { return oneOf(r, oneOf(r, wilds...), r.Intn(3), r.Intn(66)) }
	list := func() []int {
		var all []int
		for range r.Intn(4) {
			all = append(all, wild())
		}
		return all
	}
	for range 30000 {
		m := api.Module{Vars: []api.Var{{Name: "g", Size: 8}}, Externs: []api.Extern{{Name: "x", Params: []int{8}, Ret: 8}}}
		f := api.Func{Name: "f", Params: list(), Ret: wild(), Blocks: make([]api.Block, r.Intn(4))}
		if r.Intn(2) == 0 {
			f.Params, f.Ret = []int{8, 65}, oneOf(r, 0, 8)
		}
		for b := range f.Blocks {
			for range 1 + r.Intn(3) {
				in := api.Instr{Op: oneOf(r, 1+r.Intn(34), wild()), Reg: wild(), Type: wild(), N: wild(), Flags: wild(), To: list()}
				for range r.Intn(4) {
					in.Args = append(in.Args, api.Value{Kind: oneOf(r, 1+r.Intn(5), wild()), N: wild(), Bits: oneOf(r, 0, r.Uint64())})
				}
				f.Blocks[b].Code = append(f.Blocks[b].Code, in)
			}
			if r.Intn(4) > 0 {
				f.Blocks[b].Code = append(f.Blocks[b].Code, api.Instr{Op: api.Br + r.Intn(4), Reg: -1, To: list()})
			}
		}
		m.Funcs = []api.Func{f}
		checkByRules(t, m, map[string]int{})
		checkTypesByRules(t, f, 0, 70)
		checkTypesByRules(t, f, 4090, 4096)
	}
}

// checkTypesByRules holds the types of the registers from one on, up to another, against the chapter's words.
func checkTypesByRules(t *testing.T, f api.Func, least, behind int) {
	t.Helper()
	before := ir.CopyFunc(f)
	types := verify.Types(f)
	for reg := least; reg < behind; reg++ {
		if want, _ := typeByRules(f, reg); types[reg] != want {
			t.Fatalf("the type of %d is %d, not %d: %v", reg, types[reg], want, f)
		}
	}
	if len(types) != 4096 || !ir.SameFunc(f, before) {
		t.Fatal("Types", len(types), f)
	}
}

// P8.1: the types of all registers, of right functions and spoilt ones.
func TestTypesByRules(t *testing.T) {
	r := seeded(85)
	for range 200 {
		m := r.module()
		r.spoil(&m, r.Intn(30))
		for _, f := range m.Funcs {
			checkTypesByRules(t, f, 0, 4096)
		}
	}
}

// rename gives all registers but those of arguments other names, each another one.
func (r maker) rename(f api.Func) api.Func {
	f = ir.CopyFunc(f)
	least := len(f.Params)
	names := r.Perm(api.MaxReg + 1 - least)
	other := func(n *int) {
		if *n >= least {
			*n = least + names[*n-least]
		}
	}
	for b := range f.Blocks {
		for i := range f.Blocks[b].Code {
			in := &f.Blocks[b].Code[i]
			other(&in.Reg)
			for k := range in.Args {
				if in.Args[k].Kind == api.Reg {
					other(&in.Args[k].N)
				}
			}
		}
	}
	return f
}

// P8.2: a right module stays right when its registers are named otherwise.
func TestNamedOtherwise(t *testing.T) {
	r := seeded(86)
	for range 3000 {
		m := r.module()
		for n := range m.Funcs {
			m.Funcs[n] = r.rename(m.Funcs[n])
		}
		if code, place := verify.Check(m); code != api.OK || place != (api.Place{}) {
			t.Fatal(code, place, m)
		}
	}
}

// P8.2: a right module's text may be too great to be read; it is sayable all the same.
func TestGreatText(t *testing.T) {
	m := full()
	text := spell.Text(m)
	check(t, m, api.OK, api.Place{})
	if _, fault := parse.Parse(text); !spell.Sayable(m) || len(text) <= api.MaxText || fault.Code != api.ErrLimit {
		t.Error(len(text), fault)
	}
}
