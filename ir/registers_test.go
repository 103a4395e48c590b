package ir_test

import (
	"math"
	"testing"

	"lathe/api"
	"lathe/ir"
)

// P2.1: the chapter's examples.
func TestExamples(t *testing.T) {
	for _, c := range []struct {
		in   api.Instr
		want int
	}{
		{api.Instr{Op: api.Eq, Type: 8}, 1}, {api.Instr{Op: api.Load, Type: api.Ptr}, api.Ptr}, {api.Instr{Op: api.Call}, 0}, {api.Instr{Op: 99, Type: 8}, 0},
	} {
		if ir.Result(c.in) != c.want {
			t.Error(c.in, ir.Result(c.in))
		}
	}
	if !ir.Idle(api.Load) || !ir.Idle(api.Udiv) || ir.Idle(api.Store) || ir.Idle(api.Call) {
		t.Error("Idle")
	}
	if ir.Calm(api.Udiv) || ir.Calm(api.Phi) || !ir.Calm(api.Freeze) || !ir.Calm(api.Gep) {
		t.Error("Calm")
	}
	f := function(2, []api.Instr{instr(api.Add, 7, reg(0), reg(7))})
	if ir.Size(f) != 1 || ir.Fresh(f) != 2 || ir.Uses(f, 7) != 1 {
		t.Error(ir.Size(f), ir.Fresh(f), ir.Uses(f, 7))
	}
	if p, ok := ir.Def(f, 7); !ok || p != (api.Place{}) {
		t.Error(p, ok)
	}
	if p, ok := ir.Def(f, 0); ok || p != (api.Place{}) {
		t.Error(p, ok)
	}
}

// P2.1: Size, of blocks without instructions too.
func TestSize(t *testing.T) {
	for _, c := range []struct {
		f    api.Func
		want int
	}{
		{api.Func{}, 0}, {function(3), 0}, {function(0, nil), 0}, {function(0, nil, []api.Instr{{}, {Op: 99}}, nil, []api.Instr{{}}), 3}, {exampleFunc(), 6},
	} {
		if ir.Size(c.f) != c.want {
			t.Error(c.f, ir.Size(c.f))
		}
	}
	eachWild(func(f api.Func) {
		sum := 0
		for _, b := range f.Blocks {
			sum += len(b.Code)
		}
		if ir.Size(f) != sum {
			t.Error(f, ir.Size(f))
		}
	})
}

// P2.1: Fresh passes over what is made or used, and over no more.
func TestFresh(t *testing.T) {
	for i, c := range []struct {
		f    api.Func
		want int
	}{
		{api.Func{}, 0},
		{function(3), 3},
		{exampleFunc(), 4},
		{function(0, []api.Instr{instr(api.Add, 0), instr(api.Add, 1), instr(api.Add, 3)}), 2},
		{function(0, []api.Instr{instr(api.Add, 3), instr(api.Add, 1), instr(api.Add, 0)}, []api.Instr{instr(api.Add, 2)}), 4},
		// The Reg of what makes nothing counts, too.
		{function(1, []api.Instr{{Op: api.Store, Reg: 1}, {Op: 99, Reg: 2}, {Op: api.Call, Reg: 3}}), 4},
		// Operands of any place count, if they are of the kind Reg.
		{function(0, []api.Instr{instr(api.Add, 9, number(7), reg(0)), instr(api.Add, 9, reg(1))}), 2},
		{function(0, []api.Instr{instr(api.Add, 9, api.Value{Kind: api.Global}, api.Value{Kind: api.Const}, api.Value{Kind: api.Poison}, api.Value{Kind: api.Null}, api.Value{Kind: 6}, api.Value{})}), 0},
		// N, Type, Flags and To are no registers.
		{function(0, []api.Instr{{Op: api.Br, Reg: -1, N: 1, To: []int{0}}}), 0},
		// What lies below the first or far above stands in nobody's way.
		{function(2, []api.Instr{instr(api.Add, -1, reg(-2), reg(math.MinInt)), instr(api.Add, math.MaxInt, reg(0), reg(1))}), 2},
		{function(5000), 5000},
	} {
		if got := ir.Fresh(c.f); got != c.want {
			t.Error(i, got, c.want)
		}
	}
}

// P2.1: all registers up to the greatest, and beyond, may be named.
func TestFreshBeyond(t *testing.T) {
	var code []api.Instr
	for n := range api.MaxReg + 1 {
		code = append(code, instr(api.Add, n))
	}
	if got := ir.Fresh(function(2, code)); got != api.MaxReg+1 {
		t.Error(got)
	}
}

// P2.2: Fresh is neither a parameter, nor made, nor used, and the least such one.
func TestFreshWild(t *testing.T) {
	eachWild(func(f api.Func) {
		before := deep(f)
		fresh := ir.Fresh(f)
		if fresh < len(f.Params) || isNamed(f, fresh) {
			t.Error("not fresh", fresh, f)
		}
		for n := len(f.Params); n < fresh; n++ {
			if !isNamed(f, n) {
				t.Error("not the least", fresh, n, f)
			}
		}
		if _, ok := ir.Def(f, fresh); ok || ir.Uses(f, fresh) != 0 {
			t.Error("made or used", fresh, f)
		}
		if !alike(f, before) {
			t.Error("changed", before)
		}
	})
}

func isNamed(f api.Func, n int) bool {
	for _, b := range f.Blocks {
		for _, in := range b.Code {
			if in.Reg == n {
				return true
			}
			for _, v := range in.Args {
				if v.Kind == api.Reg && v.N == n {
					return true
				}
			}
		}
	}
	return false
}

// P2.1: Def is the first that makes something, whatever the register is.
func TestDef(t *testing.T) {
	f := function(1,
		[]api.Instr{{Op: api.Store, Reg: 4, Type: 8}, {Op: api.Call, Reg: 4}, {Op: 99, Reg: 4, Type: 8}, {Op: api.Add, Reg: 4}, {Op: api.Ret, Reg: 4, Type: 8}},
		[]api.Instr{instr(api.Add, 5), {Op: api.Call, Reg: 4, Type: 8}, instr(api.Add, 4), {Op: api.Eq, Reg: 6}, {Op: api.Alloca, Reg: 7}},
		[]api.Instr{instr(api.Add, 5), instr(api.Add, -1), instr(api.Add, math.MaxInt), instr(api.Add, math.MinInt), {Op: api.Add, Reg: 8, Type: -2}})
	for _, c := range []struct {
		reg, block, at int
	}{
		{4, 1, 1}, {5, 1, 0}, {6, 1, 3}, {7, 1, 4}, {-1, 2, 1}, {math.MaxInt, 2, 2}, {math.MinInt, 2, 3}, {8, 2, 4},
	} {
		if p, ok := ir.Def(f, c.reg); !ok || p != (api.Place{Block: c.block, At: c.at}) {
			t.Error(c.reg, p, ok)
		}
	}
	for _, n := range []int{0, 1, 2, 3, 9, -2, 4095} {
		if p, ok := ir.Def(f, n); ok || p != (api.Place{}) {
			t.Error(n, p, ok)
		}
	}
}

func TestDefWild(t *testing.T) {
	eachWild(func(f api.Func) {
		before := deep(f)
		for _, n := range registers(f) {
			p, ok := ir.Def(f, n)
			if want, wantOK := firstMaker(f, n); p != want || ok != wantOK {
				t.Error(n, p, ok, f)
			}
		}
		if !alike(f, before) {
			t.Error("changed", before)
		}
	})
}

// firstMaker looks from the end on, so that the first is the last that is met.
func firstMaker(f api.Func, n int) (api.Place, bool) {
	place, ok := api.Place{}, false
	for b := len(f.Blocks) - 1; b >= 0; b-- {
		code := f.Blocks[b].Code
		for at := len(code) - 1; at >= 0; at-- {
			if code[at].Reg == n && madeType(code[at].Op, code[at].Type) != 0 {
				place, ok = api.Place{Block: b, At: at}, true
			}
		}
	}
	return place, ok
}

// P2.1: Uses counts operands of the kind Reg, of all instructions, twice if they stand twice.
func TestUses(t *testing.T) {
	f := exampleFunc()
	for n, want := range map[int]int{0: 1, 1: 0, 2: 3, 3: 1, 5: 1, 7: 0, 8: 0, 9: 1, -1: 0, 4095: 0} {
		if got := ir.Uses(f, n); got != want {
			t.Error(n, got, want)
		}
	}
	// Neither N of the instruction, nor To, nor its own Reg is a use; the Bits of an operand don't matter.
	f = function(0, []api.Instr{
		{Op: api.Call, Reg: 1, N: 1, To: []int{1}, Args: []api.Value{{Kind: api.Global, N: 1}, {Kind: 6, N: 1}, {N: 1}}},
		{Op: 99, Reg: 1, Args: []api.Value{{Kind: api.Reg, N: -1, Bits: 3}, {Kind: api.Reg, N: -1}}},
	})
	if ir.Uses(f, 1) != 0 || ir.Uses(f, -1) != 2 {
		t.Error(ir.Uses(f, 1), ir.Uses(f, -1))
	}
}

// P2.1: Replace puts the operand, all of it, in the place of each use, and does nothing else.
func TestReplace(t *testing.T) {
	f := exampleFunc()
	want := exampleFunc()
	v := api.Value{Kind: api.Const, N: 3, Bits: 9}
	want.Blocks[0].Code[1].Args = []api.Value{v, v}
	want.Blocks[1].Code[0].Args[0] = v
	if got := ir.Replace(f, 2, v); !alike(got, want) {
		t.Error(got)
	}
	if got := ir.Replace(f, 4, v); !alike(got, f) {
		t.Error("nobody used it", got)
	}
	// An operand of another kind with this number is no use.
	if got := ir.Replace(f, 1, v); !alike(got, f) {
		t.Error("a global is a register", got)
	}
	// By itself nothing comes of it but the Bits that the operand is told with.
	f.Blocks[0].Code[0].Args[0].Bits = 5
	if got := ir.Replace(f, 0, reg(0)); !alike(got, exampleFunc()) {
		t.Error("by itself", got)
	}
}

// P2.1, P2.2: Replace, of any data; what is handed in stays, and what comes out shares nothing.
func TestReplaceWild(t *testing.T) {
	values := []api.Value{{}, reg(0), reg(1), reg(4), reg(-1), number(5), {Kind: api.Poison}, {Kind: api.Null}, {Kind: api.Global, N: 2}, {Kind: 9, N: -9, Bits: 9}}
	turn := 0
	eachWild(func(f api.Func) {
		before := deep(f)
		regs := registers(f)
		for range 6 {
			turn++
			n, v := regs[turn%len(regs)], values[turn%len(values)]
			got := ir.Replace(f, n, v)
			if !alike(f, before) {
				t.Fatal("changed", before)
			}
			checkApart(t, "Replace", f, got)
			checkReplaced(t, f, got, n, v)
			checkUses(t, f, got, n, v)
		}
	})
}

// checkReplaced: every operand is as it was, or v where it was a use.
func checkReplaced(t *testing.T, f, got api.Func, n int, v api.Value) {
	t.Helper()
	want := deep(f)
	for _, b := range want.Blocks {
		for _, in := range b.Code {
			for i, a := range in.Args {
				if a.Kind == api.Reg && a.N == n {
					in.Args[i] = v
				}
			}
		}
	}
	if !alike(got, want) {
		t.Error("Replace", n, v, f, got)
	}
}

// checkUses: behind Replace nobody uses the register, unless v is it; others are used as often as ahead, but the one that v is.
func checkUses(t *testing.T, f, got api.Func, n int, v api.Value) {
	t.Helper()
	for _, r := range registers(f) {
		want := ir.Uses(f, r)
		isV := v.Kind == api.Reg && v.N == r
		switch {
		case r == n && !isV:
			want = 0
		case r != n && isV:
			want += ir.Uses(f, n)
		}
		if ir.Uses(got, r) != want {
			t.Error("Uses of", r, "behind Replace of", n, v, ir.Uses(got, r), want)
		}
	}
}

// P2.1: Uses of any data, held against a count of its own.
func TestUsesWild(t *testing.T) {
	eachWild(func(f api.Func) {
		before := deep(f)
		counts := map[int]int{}
		for _, b := range f.Blocks {
			for _, in := range b.Code {
				for _, v := range in.Args {
					if v.Kind == 1 {
						counts[v.N]++
					}
				}
			}
		}
		for _, n := range registers(f) {
			if got := ir.Uses(f, n); got != counts[n] {
				t.Error(n, got, counts[n], f)
			}
		}
		if !alike(f, before) {
			t.Error("changed", before)
		}
	})
}
