package verify_test

import (
	"math"
	"slices"
	"testing"

	"lathe/api"
	"lathe/verify"
)

// checkTypes holds the types of a function against those that are told; all others must be Void.
func checkTypes(t *testing.T, f api.Func, told map[int]int) {
	t.Helper()
	want := make([]int, 4096)
	for n, typ := range told {
		want[n] = typ
	}
	if got := verify.Types(f); !slices.Equal(got, want) {
		t.Errorf("Types: %v, not %v", got, want)
	}
}

// P8.1: the types of arguments, of what each operation makes, and of registers that nothing makes.
func TestTypes(t *testing.T) {
	checkTypes(t, api.Func{}, nil)
	checkTypes(t, read(t, "func f(i8, ptr, i64) i8;b0:;ret i8 %0;end").Funcs[0], map[int]int{0: 8, 1: 65, 2: 64})
	const text = "extern x() i7;extern y() void;func f(i8) i8;b0:;%9 = alloca 4;%3 = add i16 1, 2;%4 = sle i16 1, 2;%5 = zext i8 %0 to i32;%4095 = load i8 null;store i8 1, null;br b1;" +
		"b1:;%20 = phi i8 b0 1;%10 = gep %9, 1;%11 = call x();call y();%12 = eq ptr null, null;%13 = select ptr 1, null, null;brif 1, b2, b2;b2:;ret i8 1;b3:;%21 = freeze i3 1;halt;end"
	checkTypes(t, read(t, text).Funcs[0], map[int]int{0: 8, 9: 65, 3: 16, 4: 1, 5: 32, 4095: 8, 20: 8, 10: 65, 11: 7, 12: 1, 13: 65, 21: 3})
}

// makes is an instruction of an Op, a register and a type.
func makes(op, reg, typ int) api.Instr {
	return api.Instr{Op: op, Reg: reg, Type: typ}
}

// P8.1: functions that aren't right: what makes a register first, and arguments ahead of all.
func TestTypesOfAnyFunc(t *testing.T) {
	f := api.Func{Params: []int{0, -5, 99}, Blocks: []api.Block{
		{Code: []api.Instr{makes(api.Add, 0, 8), makes(api.Add, 1, 8), makes(api.Add, 2, 8), makes(api.Add, 3, 0), makes(api.Br, 3, 8), makes(99, 3, 8), makes(api.Store, 3, 8)}},
		{},
		{Code: []api.Instr{makes(api.Add, 3, -7), makes(api.Add, 3, 8), makes(api.Add, 4, 70), makes(api.Add, 4, 8), makes(api.Gep, 5, 0), makes(api.Ule, 5, 3)}},
		{Code: []api.Instr{makes(api.Add, -1, 8), makes(api.Add, math.MinInt, 8), makes(api.Add, 4096, 8), makes(api.Add, math.MaxInt, 8), makes(api.Slt, 4095, 0), makes(api.Alloca, 4094, 0)}},
	}}
	checkTypes(t, f, map[int]int{1: -5, 2: 99, 3: -7, 4: 70, 5: 65, 4095: 1, 4094: 65})
	f.Params = slices.Repeat([]int{7}, 4095)
	f.Params[0] = 0
	want := map[int]int{4095: 1}
	for n := range 4094 {
		want[n+1] = 7
	}
	checkTypes(t, f, want)
	f.Params = append(f.Params, 9, 9, 9)
	want[4095] = 9
	checkTypes(t, f, want)
}

// P8.1: what Types answers is new memory; the function stays.
func TestTypesApart(t *testing.T) {
	params := []int{8, 16, 32, 64}
	f := api.Func{Params: params[:2], Blocks: []api.Block{{Code: []api.Instr{makes(api.Add, 3, 24)}}}}
	first, other := verify.Types(f), verify.Types(f)
	for i := range first[:cap(first)] {
		first[:cap(first)][i] = -99
	}
	if !slices.Equal(params, []int{8, 16, 32, 64}) {
		t.Error("Params are changed", params)
	}
	if other[0] != 8 || other[1] != 16 || other[2] != 0 || other[3] != 24 || len(other) != 4096 {
		t.Error("two answers share memory", other[:4])
	}
	checkTypes(t, f, map[int]int{0: 8, 1: 16, 3: 24})
}
