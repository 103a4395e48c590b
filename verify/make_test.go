package verify_test

import (
	"math"
	"math/rand"
	"reflect"
	"slices"
	"strconv"

	"lathe/api"
)

// maker makes modules; seeded, the same ones in every run.
type maker struct{ *rand.Rand }

func seeded(n int64) maker {
	return maker{rand.New(rand.NewSource(n))}
}

func oneOf[T any](r maker, all ...T) T {
	return all[r.Intn(len(all))]
}

// typ is mostly one of a few, so that there are registers of each.
func (r maker) typ() int {
	return oneOf(r, 1, 8, 8, 64, api.Ptr, 1+r.Intn(65))
}

func (r maker) number() int {
	return oneOf(r, 1, 8, 8, 64, 1+r.Intn(64))
}

func (r maker) types(one func() int) []int {
	var all []int
	for range r.Intn(4) {
		all = append(all, one())
	}
	return all
}

// module is right.
func (r maker) module() api.Module {
	var m api.Module
	for i := range r.Intn(4) {
		m.Vars = append(m.Vars, api.Var{Name: "g" + strconv.Itoa(i), Size: 1 + r.Intn(64)})
	}
	for i := range r.Intn(4) {
		m.Externs = append(m.Externs, api.Extern{Name: "x" + strconv.Itoa(i), Params: r.types(r.number), Ret: oneOf(r, 0, r.number())})
	}
	for i := range 1 + r.Intn(3) {
		m.Funcs = append(m.Funcs, api.Func{Name: "f" + strconv.Itoa(i), Params: r.types(r.typ), Ret: oneOf(r, 0, r.typ())})
	}
	for i := range m.Funcs {
		r.body(m, &m.Funcs[i])
	}
	return m
}

// body lays blocks, then what is made in them, and gives operands at last, when it is known what is made where.
func (r maker) body(m api.Module, f *api.Func) {
	f.Blocks = make([]api.Block, 1+r.Intn(7))
	for b := range f.Blocks {
		f.Blocks[b].Code = []api.Instr{r.end(*f)}
	}
	names := r.names(len(f.Params))
	for b := range f.Blocks {
		var code []api.Instr
		for range r.Intn(3) {
			if b > 0 {
				code = append(code, r.phi(*f, b))
			}
		}
		for range r.Intn(5) {
			code = append(code, r.instr(m, b))
		}
		for i, in := range code {
			code[i].Reg = -1
			if resultByRules(in) != 0 {
				code[i].Reg, names = names[0], names[1:]
			}
		}
		f.Blocks[b].Code = append(code, f.Blocks[b].Code...)
	}
	r.operands(m, f)
}

// names are registers that may be made, few of them great; each once.
func (r maker) names(least int) []int {
	names := r.Perm(80)
	for i := range names {
		names[i] += least
	}
	names[r.Intn(9)], names[r.Intn(9)+9] = 4095, 4000
	return names
}

func (r maker) end(f api.Func) api.Instr {
	in := api.Instr{Op: oneOf(r, api.Br, api.Brif, api.Brif, api.Ret, api.Halt), Reg: -1}
	if len(f.Blocks) == 1 {
		in.Op = oneOf(r, api.Ret, api.Ret, api.Halt)
	}
	to := func() int { return 1 + r.Intn(len(f.Blocks)-1) }
	switch in.Op {
	case api.Br:
		in.To = []int{to()}
	case api.Brif:
		in.To = []int{to(), to()}
		in.Args = make([]api.Value, 1)
	case api.Ret:
		in.Type = f.Ret
		if f.Ret != 0 {
			in.Args = make([]api.Value, 1)
		}
	}
	return in
}

func (r maker) phi(f api.Func, b int) api.Instr {
	in := api.Instr{Op: api.Phi, Type: r.typ()}
	for p := range f.Blocks {
		if slices.Contains(nextOf(f, p), b) {
			in.To = append(in.To, p)
		}
	}
	in.Args = make([]api.Value, len(in.To))
	return in
}

// instr is any other than a phi or an end, without operands.
func (r maker) instr(m api.Module, b int) api.Instr {
	in := api.Instr{Op: 1 + r.Intn(30), Type: r.typ()}
	if b == 0 && r.Intn(4) == 0 {
		in.Op = api.Alloca
	}
	rules := rules{m: m}
	row, _ := rules.rowOf(0, in.Op)
	in.Args = make([]api.Value, max(row.args, 0))
	switch {
	case in.Op == api.Phi || in.Op == api.Alloca && b != 0:
		return r.instr(m, b)
	case in.Op <= api.Ashr:
		in.Type = r.number()
		may := []int{api.Add: 3, api.Sub: 3, api.Mul: 3, api.Shl: 3, api.Udiv: 4, api.Sdiv: 4, api.Lshr: 4, api.Ashr: 4}
		in.Flags = r.Intn(8) & may[in.Op]
	case in.Op >= api.Ult && in.Op <= api.Sle:
		in.Type = r.number()
	case in.Op >= api.Zext && in.Op <= api.Trunc:
		less := oneOf(r, 1, 8, 1+r.Intn(63))
		in.N, in.Type = less, oneOf(r, 64, less+1+r.Intn(64-less))
		if in.Op == api.Trunc {
			in.N, in.Type = in.Type, in.N
		}
	case in.Op == api.Alloca:
		in.Type, in.N = api.Ptr, oneOf(r, 1, 64, 1+r.Intn(64))
	case in.Op == api.Gep:
		in.Type = api.Ptr
	case in.Op == api.Call:
		in.N = r.Intn(len(m.Externs)+len(m.Funcs)) - len(m.Externs)
		x, _ := rules.calledBy(in)
		in.Type, in.Args = x.Ret, make([]api.Value, len(x.Params))
	}
	return in
}

// operands gives each one of the type that is wanted, a register where one stands ahead.
func (r maker) operands(m api.Module, f *api.Func) {
	rules := rules{m: m}
	n := slices.IndexFunc(m.Funcs, func(g api.Func) bool { return g.Name == f.Name })
	reach := reachedWithout(*f, -1)
	eachByRules(*f, func(b, i int, in api.Instr) {
		for k := range in.Args {
			need, place := reach[b], api.Place{Block: b, At: i}
			if in.Op == api.Phi {
				need, place = reach[in.To[k]], api.Place{Block: in.To[k], At: math.MaxInt}
			}
			want, _ := rules.wantedBy(n, in, k)
			in.Args[k] = r.operand(m, want, registers(*f, want, need, place))
		}
	})
}

// registers lists those of a type that stand ahead of a place, all of them if there is no need to.
func registers(f api.Func, want int, need bool, place api.Place) []int {
	var all []int
	for reg, p := range f.Params {
		if p == want {
			all = append(all, reg)
		}
	}
	eachByRules(f, func(b, i int, in api.Instr) {
		if resultByRules(in) != want {
			return
		}
		ahead := b == place.Block && i < place.At || b != place.Block && !reachedWithout(f, b)[place.Block]
		if !need || ahead && reachedWithout(f, -1)[b] {
			all = append(all, in.Reg)
		}
	})
	return all
}

func (r maker) operand(m api.Module, want int, registers []int) api.Value {
	if len(registers) > 0 && r.Intn(4) > 0 {
		return api.Value{Kind: api.Reg, N: oneOf(r, registers...)}
	}
	if r.Intn(6) == 0 {
		return api.Value{Kind: api.Poison}
	}
	if want == api.Ptr {
		if len(m.Vars) > 0 && r.Intn(2) == 0 {
			return api.Value{Kind: api.Global, N: r.Intn(len(m.Vars))}
		}
		return api.Value{Kind: api.Null}
	}
	most := uint64(math.MaxUint64) >> uint(64-want)
	return api.Value{Kind: api.Const, Bits: oneOf(r, 0, 1, most, r.Uint64()&most)}
}

// Numbers and texts at the edges that the chapter names, and far beyond.
var (
	wilds     = []int{math.MinInt, -2, -1, 0, 1, 2, 3, 4, 5, 6, 7, 8, 9, 16, 63, 64, 65, 66, 400, 4095, 4096, math.MaxInt}
	wildNames = []string{"", "a", "9a", "a-b", "g0", "x0", "f0"}
)

// spot is a number, a text or a list of a module that may be changed.
type spot struct{ reflect.Value }

// spots lists all of them; what a list has behind its length isn't touched.
func spots(at reflect.Value) []spot {
	var all []spot
	switch at.Kind() {
	case reflect.Slice:
		all = append(all, spot{at})
		for i := range at.Len() {
			all = append(all, spots(at.Index(i))...)
		}
	case reflect.Struct:
		for i := range at.NumField() {
			all = append(all, spots(at.Field(i))...)
		}
	default:
		all = append(all, spot{at})
	}
	return all
}

func spotsOf(m *api.Module) []spot {
	return spots(reflect.ValueOf(m).Elem())
}

// changes lists what a spot may become.
func (s spot) changes() []reflect.Value {
	var all []reflect.Value
	switch s.Kind() {
	case reflect.Slice:
		return s.lists()
	case reflect.String:
		for _, name := range wildNames {
			all = append(all, reflect.ValueOf(name))
		}
	case reflect.Int:
		for _, n := range append(wilds, int(s.Int())-1, int(s.Int())+1) {
			all = append(all, reflect.ValueOf(n))
		}
	case reflect.Uint64:
		for _, n := range []uint64{0, 1, 2, 255, 256, 1 << 63, math.MaxUint64, s.Uint() + 1} {
			all = append(all, reflect.ValueOf(n))
		}
	}
	return all
}

// lists are a list with one less, one more, one twice, and two in each other's place.
func (s spot) lists() []reflect.Value {
	n := s.Len()
	build := func(order ...int) reflect.Value {
		list := reflect.MakeSlice(s.Type(), 0, len(order))
		for _, i := range order {
			one := reflect.Zero(s.Type().Elem())
			if i < n {
				one = s.Index(i)
			}
			list = reflect.Append(list, one)
		}
		return list
	}
	var same []int
	for i := range n {
		same = append(same, i)
	}
	all := []reflect.Value{build(append(same, n)...)}
	for i := range n {
		all = append(all, build(slices.Delete(slices.Clone(same), i, i+1)...))
	}
	for i := range n - 1 {
		swapped := slices.Clone(same)
		swapped[i], swapped[i+1] = i+1, i
		all = append(all, build(swapped...), build(slices.Insert(slices.Clone(same), i, i+1)...))
	}
	return all
}

// spoil changes some spots of a module, which shares nothing with any other.
func (r maker) spoil(m *api.Module, times int) {
	all := spotsOf(m)
	for range times {
		// A spot that a change of a list ahead of it has left out is changed in vain.
		s := all[r.Intn(len(all))]
		s.Set(oneOf(r, s.changes()...))
	}
}

// move lays an instruction of a function elsewhere, in its block or another one.
func (r maker) move(m *api.Module) {
	f := m.Funcs[r.Intn(len(m.Funcs))]
	from, to := &f.Blocks[r.Intn(len(f.Blocks))], &f.Blocks[r.Intn(len(f.Blocks))]
	if len(from.Code) == 0 {
		return
	}
	i := r.Intn(len(from.Code))
	in := from.Code[i]
	from.Code = slices.Delete(from.Code, i, i+1)
	to.Code = slices.Insert(to.Code, r.Intn(len(to.Code)+1), in)
}

// exchange lets two operands of a function change places.
func (r maker) exchange(m *api.Module) {
	var all []*api.Value
	eachByRules(m.Funcs[r.Intn(len(m.Funcs))], func(b, i int, in api.Instr) {
		for k := range in.Args {
			all = append(all, &in.Args[k])
		}
	})
	if len(all) > 0 {
		one, other := oneOf(r, all...), oneOf(r, all...)
		*one, *other = *other, *one
	}
}
