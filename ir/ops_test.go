package ir_test

import (
	"math"
	"slices"
	"testing"

	"lathe/api"
	"lathe/ir"
)

// The chapter's Ops, by what it says of them, each written out.
var (
	ofOneBit  = []int{api.Eq, api.Ne, api.Ult, api.Ule, api.Slt, api.Sle}
	ofAddress = []int{api.Alloca, api.Gep}
	ofNothing = []int{api.Store, api.Br, api.Brif, api.Ret, api.Halt}
	ofType    = []int{
		api.Add, api.Sub, api.Mul, api.Udiv, api.Sdiv, api.Urem, api.Srem, api.And, api.Or, api.Xor, api.Shl, api.Lshr, api.Ashr,
		api.Zext, api.Sext, api.Trunc, api.Select, api.Freeze, api.Phi, api.Load, api.Call,
	}
	ending = []int{api.Br, api.Brif, api.Ret, api.Halt}
	calm   = []int{
		api.Add, api.Sub, api.Mul, api.And, api.Or, api.Xor, api.Shl, api.Lshr, api.Ashr,
		api.Eq, api.Ne, api.Ult, api.Ule, api.Slt, api.Sle,
		api.Zext, api.Sext, api.Trunc, api.Select, api.Freeze, api.Gep,
	}
	idleNotCalm = []int{api.Udiv, api.Sdiv, api.Urem, api.Srem, api.Phi, api.Alloca, api.Load}
)

// ops are all of the table, their neighbours, and such as are far off.
func ops() []int {
	all := []int{math.MinInt, -1 << 32, 256 + api.Add, 256 + api.Br, 1<<32 + api.Load, math.MaxInt}
	for op := -5; op <= 300; op++ {
		all = append(all, op)
	}
	return all
}

func madeType(op, own int) int {
	switch {
	case slices.Contains(ofOneBit, op):
		return 1
	case slices.Contains(ofAddress, op):
		return 65
	case slices.Contains(ofType, op):
		return own
	}
	return 0
}

// P2.1: the lists above are the whole table, so that no Op is forgotten.
func TestTableWhole(t *testing.T) {
	all := slices.Concat(ofOneBit, ofAddress, ofNothing, ofType)
	slices.Sort(all)
	if len(all) != 34 || len(slices.Compact(all)) != 34 || all[0] != 1 || all[33] != 34 {
		t.Error(all)
	}
}

// P2.1: Result of every Op, whatever its Type and its other fields are.
func TestResult(t *testing.T) {
	for _, op := range ops() {
		for _, own := range wilds {
			want := madeType(op, own)
			for _, in := range []api.Instr{
				{Op: op, Type: own},
				{Op: op, Type: own, Reg: -1, N: 7, Flags: 9, Args: []api.Value{reg(3)}, To: []int{1, 2}},
			} {
				if got := ir.Result(in); got != want {
					t.Errorf("Result of %d with Type %d: %d; want %d", op, own, got, want)
				}
			}
		}
	}
}

// P2.1: Ends, Idle and Calm of every Op.
func TestEndsIdleCalm(t *testing.T) {
	for _, op := range ops() {
		isCalm := slices.Contains(calm, op)
		isIdle := isCalm || slices.Contains(idleNotCalm, op)
		if ir.Ends(op) != slices.Contains(ending, op) {
			t.Error("Ends", op, ir.Ends(op))
		}
		if ir.Idle(op) != isIdle {
			t.Error("Idle", op, ir.Idle(op))
		}
		if ir.Calm(op) != isCalm {
			t.Error("Calm", op, ir.Calm(op))
		}
	}
}

// P2.1: Callee of functions and of externs, and of numbers just beyond and far beyond.
func TestCallee(t *testing.T) {
	m := exampleModule()
	for _, c := range []struct {
		n      int
		params []int
		ret    int
	}{
		{0, []int{8, 8}, 8}, {1, []int{8, 8}, 8}, {2, nil, 0}, {-1, []int{8, api.Ptr}, 16}, {-2, nil, 0},
	} {
		if params, ret, ok := ir.Callee(m, c.n); !ok || ret != c.ret || !slices.Equal(params, c.params) {
			t.Error(c.n, params, ret, ok)
		}
	}
	for _, n := range []int{3, 4, -3, -4, 1 << 40, -1 << 40, math.MaxInt, math.MinInt, math.MinInt + 1} {
		if params, ret, ok := ir.Callee(m, n); ok || ret != 0 || len(params) != 0 {
			t.Error(n, params, ret, ok)
		}
	}
	for _, n := range []int{0, -1} {
		if params, ret, ok := ir.Callee(api.Module{}, n); ok || ret != 0 || len(params) != 0 {
			t.Error("of none", n, params, ret, ok)
		}
	}
}

// P2.1: Callee answers new memory, twice asked too, and any data as it stands.
func TestCalleeWild(t *testing.T) {
	eachWildModule(func(m api.Module) {
		before := deep(m)
		for n := -4; n <= 4; n++ {
			params, ret, ok := ir.Callee(m, n)
			again, _, _ := ir.Callee(m, n)
			checkApart(t, "Callee", m, params, again)
			var want []int
			wantRet, wantOK := 0, false
			if n >= 0 && n < len(m.Funcs) {
				want, wantRet, wantOK = m.Funcs[n].Params, m.Funcs[n].Ret, true
			}
			if n < 0 && -1-n < len(m.Externs) {
				want, wantRet, wantOK = m.Externs[-1-n].Params, m.Externs[-1-n].Ret, true
			}
			if !slices.Equal(params, want) || ret != wantRet || ok != wantOK {
				t.Error(n, params, ret, ok)
			}
			for i := range params {
				params[i]++
			}
		}
		if !alike(m, before) {
			t.Error("Callee changes the module, or its answer is the module's")
		}
	})
}
