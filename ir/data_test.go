package ir_test

import (
	"cmp"
	"math"
	"math/rand"
	"reflect"
	"slices"
	"testing"

	"lathe/api"
)

func reg(n int) api.Value       { return api.Value{Kind: api.Reg, N: n} }
func number(b uint64) api.Value { return api.Value{Kind: api.Const, Bits: b} }

// instr makes a register of i8 with operands.
func instr(op, to int, args ...api.Value) api.Instr {
	return api.Instr{Op: op, Reg: to, Type: 8, Args: args}
}

// function has i8 parameters, as many as told, and a block for each list of instructions.
func function(params int, blocks ...[]api.Instr) api.Func {
	f := api.Func{Name: "f", Ret: 8, Params: make([]int, params)}
	for i := range f.Params {
		f.Params[i] = 8
	}
	for _, code := range blocks {
		f.Blocks = append(f.Blocks, api.Block{Code: code})
	}
	return f
}

// exampleFunc has two blocks; %2 is made once and used thrice, %9 is used and not made.
func exampleFunc() api.Func {
	return function(2,
		[]api.Instr{
			instr(api.Add, 2, reg(0), number(7)),
			instr(api.Mul, 3, reg(2), reg(2)),
			{Op: api.Br, Reg: -1, To: []int{1}},
		},
		[]api.Instr{
			{Op: api.Phi, Reg: 5, Type: 8, Args: []api.Value{reg(2), {Kind: api.Poison}, reg(9)}, To: []int{0, 1, 2}},
			{Op: api.Store, Reg: -1, Type: 8, Args: []api.Value{reg(3), {Kind: api.Global, N: 1}}},
			{Op: api.Ret, Reg: -1, Type: 8, Args: []api.Value{reg(5)}},
		})
}

// exampleModule has something in every list and no zero in any field of the first of each.
func exampleModule() api.Module {
	g := exampleFunc()
	g.Name = "g"
	g.Blocks[0].Code[0] = api.Instr{Op: api.Zext, Reg: 7, Type: 16, N: 8, Flags: 3, Args: []api.Value{{Kind: api.Const, N: 4, Bits: 5}}, To: []int{6}}
	return api.Module{
		Vars:    []api.Var{{Name: "v", Size: 8}, {Name: "w", Size: 1}},
		Externs: []api.Extern{{Name: "x", Params: []int{8, api.Ptr}, Ret: 16}, {Name: "y"}},
		Funcs:   []api.Func{g, exampleFunc(), {Name: "h"}},
	}
}

// wilds are numbers that no right module has, among such as it may have.
var wilds = []int{math.MinInt, -1 << 32, -3, -1, 0, 1, 2, 3, 4, 5, 6, 7, 8, 64, 65, 66, 4095, 4096, 1 << 40, math.MaxInt}

func wild(r *rand.Rand) int {
	if r.Intn(8) == 0 {
		return wilds[r.Intn(len(wilds))]
	}
	return r.Intn(8) - 1
}

func wildInts(r *rand.Rand) []int {
	var list []int
	for range r.Intn(4) {
		list = append(list, wild(r))
	}
	return list
}

func wildInstr(r *rand.Rand) api.Instr {
	in := api.Instr{Op: r.Intn(37) - 1, Reg: wild(r), Type: wild(r), N: wild(r), Flags: wild(r), To: wildInts(r)}
	if r.Intn(20) == 0 {
		in.Op = wild(r)
	}
	for range r.Intn(4) {
		in.Args = append(in.Args, wildValue(r))
	}
	return in
}

func wildValue(r *rand.Rand) api.Value {
	v := api.Value{Kind: api.Reg, N: wild(r)}
	if r.Intn(3) == 0 {
		v.Kind, v.Bits = wild(r), r.Uint64()
	}
	return v
}

func wildFunc(r *rand.Rand) api.Func {
	f := api.Func{Name: "f", Params: wildInts(r), Ret: wild(r)}
	for range r.Intn(4) {
		var b api.Block
		for range r.Intn(5) {
			b.Code = append(b.Code, wildInstr(r))
		}
		f.Blocks = append(f.Blocks, b)
	}
	return f
}

func wildModule(r *rand.Rand) api.Module {
	var m api.Module
	for range r.Intn(3) {
		m.Vars = append(m.Vars, api.Var{Name: "v", Size: wild(r)})
	}
	for range r.Intn(3) {
		m.Externs = append(m.Externs, api.Extern{Name: "x", Params: wildInts(r), Ret: wild(r)})
	}
	for range r.Intn(3) {
		m.Funcs = append(m.Funcs, wildFunc(r))
	}
	return m
}

// eachWild shows the example and many functions of any data, the same ones in every run.
func eachWild(show func(f api.Func)) {
	show(api.Func{})
	show(exampleFunc())
	r := rand.New(rand.NewSource(2))
	for range 3000 {
		show(wildFunc(r))
	}
}

func eachWildModule(show func(m api.Module)) {
	show(api.Module{})
	show(exampleModule())
	r := rand.New(rand.NewSource(3))
	for range 1000 {
		show(wildModule(r))
	}
}

// registers are those that a function names, and some that it may not.
func registers(f api.Func) []int {
	all := slices.Clone(wilds)
	for _, b := range f.Blocks {
		for _, in := range b.Code {
			all = append(all, in.Reg)
			for _, v := range in.Args {
				all = append(all, v.N)
			}
		}
	}
	slices.Sort(all)
	return slices.Compact(all)
}

// deep copies data without the package that is tested.
func deep[T any](data T) T {
	to := reflect.New(reflect.TypeOf(data)).Elem()
	deepInto(to, reflect.ValueOf(data))
	return to.Interface().(T)
}

func deepInto(to, from reflect.Value) {
	switch from.Kind() {
	case reflect.Slice:
		if from.IsNil() {
			return
		}
		to.Set(reflect.MakeSlice(from.Type(), from.Len(), from.Len()))
		for i := range from.Len() {
			deepInto(to.Index(i), from.Index(i))
		}
	case reflect.Struct:
		for i := range from.NumField() {
			deepInto(to.Field(i), from.Field(i))
		}
	default:
		to.Set(from)
	}
}

// alike holds data against each other, nil and empty being one, without the package that is tested.
func alike(a, b any) bool {
	return alikeValues(reflect.ValueOf(a), reflect.ValueOf(b))
}

func alikeValues(a, b reflect.Value) bool {
	switch a.Kind() {
	case reflect.Slice:
		if a.Len() != b.Len() {
			return false
		}
		for i := range a.Len() {
			if !alikeValues(a.Index(i), b.Index(i)) {
				return false
			}
		}
		return true
	case reflect.Struct:
		for i := range a.NumField() {
			if !alikeValues(a.Field(i), b.Field(i)) {
				return false
			}
		}
		return true
	}
	return a.Equal(b)
}

// span is the memory that a list has, spare room too.
type span struct{ from, to uintptr }

func spans(data reflect.Value, met []span) []span {
	switch data.Kind() {
	case reflect.Slice:
		if data.Cap() > 0 {
			from := data.Pointer()
			met = append(met, span{from, from + uintptr(data.Cap())*data.Type().Elem().Size()})
		}
		for i := range data.Len() {
			met = spans(data.Index(i), met)
		}
	case reflect.Struct:
		for i := range data.NumField() {
			met = spans(data.Field(i), met)
		}
	}
	return met
}

// checkApart: no two lists of all these share memory.
func checkApart(t *testing.T, what string, data ...any) {
	t.Helper()
	var met []span
	for _, d := range data {
		met = spans(reflect.ValueOf(d), met)
	}
	slices.SortFunc(met, func(a, b span) int { return cmp.Compare(a.from, b.from) })
	for i := 1; i < len(met); i++ {
		if met[i].from < met[i-1].to {
			t.Fatal(what, "shares memory")
		}
	}
}

// leaves changes each number and text of the data in turn, and each list's length, and shows the data thus changed.
func leaves[T any](data T, show func(changed T)) {
	to := reflect.New(reflect.TypeOf(data)).Elem()
	to.Set(reflect.ValueOf(deep(data)))
	changeEach(to, func() { show(deep(to.Interface().(T))) })
}

func changeEach(at reflect.Value, show func()) {
	old := reflect.New(at.Type()).Elem()
	old.Set(at)
	switch at.Kind() {
	case reflect.Slice:
		for i := range at.Len() {
			changeEach(at.Index(i), show)
		}
		at.Set(reflect.Append(at.Slice3(0, at.Len(), at.Len()), reflect.Zero(at.Type().Elem())))
		show()
		if old.Len() > 0 {
			at.Set(old.Slice(0, old.Len()-1))
			show()
			at.Set(old.Slice(1, old.Len()))
			show()
		}
	case reflect.Struct:
		for i := range at.NumField() {
			changeEach(at.Field(i), show)
		}
		return
	case reflect.Int:
		at.SetInt(at.Int() + 1)
		show()
	case reflect.Uint64:
		at.SetUint(at.Uint() ^ 1<<63)
		show()
	case reflect.String:
		at.SetString(at.String() + "_")
		show()
	}
	at.Set(old)
}
