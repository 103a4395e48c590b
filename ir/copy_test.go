package ir_test

import (
	"reflect"
	"testing"

	"lathe/api"
	"lathe/ir"
)

// P2.1, P2.2: a copy is the same, and shares nothing; what was copied stays.
func TestCopy(t *testing.T) {
	eachWildModule(func(m api.Module) {
		before := deep(m)
		a, b := ir.Copy(m), ir.Copy(m)
		if !reflect.DeepEqual(m, before) || !alike(a, before) || !alike(b, before) {
			t.Fatal("Copy isn't alike", a, before)
		}
		if !ir.Same(a, m) || !ir.Same(m, a) {
			t.Fatal("Copy isn't the same", a)
		}
		checkApart(t, "Copy", m, a, b)
	})
}

// P2.1, P2.2: likewise of a function.
func TestCopyFunc(t *testing.T) {
	eachWild(func(f api.Func) {
		before := deep(f)
		a, b := ir.CopyFunc(f), ir.CopyFunc(f)
		if !reflect.DeepEqual(f, before) || !alike(a, before) || !alike(b, before) {
			t.Fatal("CopyFunc isn't alike", a, before)
		}
		if !ir.SameFunc(a, f) || !ir.SameFunc(f, a) {
			t.Fatal("CopyFunc isn't the same", a)
		}
		checkApart(t, "CopyFunc", f, a, b)
	})
}

// P2.2: what is done to a copy, in its spare room too, isn't done to the first.
func TestCopyApart(t *testing.T) {
	m := exampleModule()
	m.Funcs = append(make([]api.Func, 0, 9), m.Funcs...)
	m.Funcs[0].Params = append(make([]int, 0, 9), m.Funcs[0].Params...)
	before := deep(m)
	a := ir.Copy(m)
	a.Vars[0].Size, a.Externs[0].Params[0], a.Funcs[0].Params[0] = 99, 99, 99
	a.Funcs[0].Blocks[0].Code[0].Args[0].N, a.Funcs[0].Blocks[0].Code[0].To[0] = 99, 99
	a.Funcs[0].Blocks[0].Code[1].Op, a.Funcs[0].Blocks[1].Code = 99, nil
	_ = append(a.Funcs, api.Func{Name: "z"})
	_ = append(a.Funcs[0].Params, 99)
	if !alike(m, before) {
		t.Error("what is done to the copy is done to the module")
	}
	if len(m.Funcs[:4][3].Name) != 0 || m.Funcs[0].Params[:3][2] != 0 {
		t.Error("the spare room of a copy is the module's")
	}
}

// P2.1: a module is no more the same when any one field, or any list's length, is another one.
func TestSame(t *testing.T) {
	m := exampleModule()
	changes := 0
	leaves(m, func(changed api.Module) {
		changes++
		if ir.Same(m, changed) || ir.Same(changed, m) {
			t.Error("the same", m, changed)
		}
		if !ir.Same(changed, deep(changed)) {
			t.Error("not the same as it is", changed)
		}
	})
	if changes < 100 {
		t.Error("too few changes were tried", changes)
	}
}

func TestSameFunc(t *testing.T) {
	f := exampleModule().Funcs[0]
	leaves(f, func(changed api.Func) {
		if ir.SameFunc(f, changed) || ir.SameFunc(changed, f) {
			t.Error("the same", f, changed)
		}
		if !ir.SameFunc(changed, deep(changed)) {
			t.Error("not the same as it is", changed)
		}
	})
}

// P2.1: lists are held place by place.
func TestSameOrder(t *testing.T) {
	m := exampleModule()
	changed := deep(m)
	changed.Vars[0], changed.Vars[1] = changed.Vars[1], changed.Vars[0]
	if ir.Same(m, changed) {
		t.Error("globals change places")
	}
	f := exampleFunc()
	other := deep(f)
	args := other.Blocks[0].Code[0].Args
	args[0], args[1] = args[1], args[0]
	if ir.SameFunc(f, other) {
		t.Error("operands change places")
	}
	other = deep(f)
	other.Blocks[0], other.Blocks[1] = other.Blocks[1], other.Blocks[0]
	if ir.SameFunc(f, other) {
		t.Error("blocks change places")
	}
}

// P2.1: nil and empty are one, in every list.
func TestSameEmpty(t *testing.T) {
	empty := api.Module{
		Vars:    []api.Var{},
		Externs: []api.Extern{},
		Funcs:   []api.Func{},
	}
	if !ir.Same(empty, api.Module{}) || !ir.Same(api.Module{}, empty) {
		t.Error("modules")
	}
	full := api.Module{
		Externs: []api.Extern{{Params: []int{}}},
		Funcs:   []api.Func{{Params: []int{}, Blocks: []api.Block{{Code: []api.Instr{}}, {Code: []api.Instr{{Args: []api.Value{}, To: []int{}}}}}}, {Blocks: []api.Block{}}},
	}
	bare := api.Module{
		Externs: []api.Extern{{}},
		Funcs:   []api.Func{{Blocks: []api.Block{{}, {Code: []api.Instr{{}}}}}, {}},
	}
	if !ir.Same(full, bare) || !ir.Same(bare, full) || !ir.Same(full, ir.Copy(bare)) || !ir.Same(bare, ir.Copy(full)) {
		t.Error("lists within")
	}
	for i := range full.Funcs {
		if !ir.SameFunc(full.Funcs[i], bare.Funcs[i]) || !ir.SameFunc(bare.Funcs[i], full.Funcs[i]) {
			t.Error("functions", i)
		}
	}
	if ir.SameFunc(full.Funcs[0], full.Funcs[1]) {
		t.Error("an empty block is a block")
	}
}
