package run_test

import (
	"math"
	"math/rand"
	"slices"
	"strconv"

	"lathe/api"
	"lathe/dom"
	"lathe/graph"
	"lathe/ir"
)

// maker makes programs and what they are run with; seeded, the same ones in every run.
type maker struct{ *rand.Rand }

func seeded(n int64) maker {
	return maker{rand.New(rand.NewSource(n))}
}

func oneOf[T any](r maker, all ...T) T {
	return all[r.Intn(len(all))]
}

// typ is one of a few, so that there are registers of each.
func (r maker) typ() int {
	return oneOf(r, 1, 8, 8, 16, 64, api.Ptr, api.Ptr)
}

func (r maker) number() int {
	return oneOf(r, 1, 8, 8, 12, 16, 64)
}

func (r maker) types(most int, one func() int) []int {
	var all []int
	for range r.Intn(most + 1) {
		all = append(all, one())
	}
	return all
}

// module is right, and most of what it does is defined.
func (r maker) module() api.Module {
	var m api.Module
	for i := range oneOf(r, 0, 1, 2, 3, 3, 3) {
		m.Vars = append(m.Vars, api.Var{Name: "g" + strconv.Itoa(i), Size: oneOf(r, 1, 8, 8, 9, 16, 24, 24, 24)})
	}
	for i := range r.Intn(3) {
		m.Externs = append(m.Externs, api.Extern{Name: "x" + strconv.Itoa(i), Params: r.types(2, r.number), Ret: oneOf(r, 0, r.number())})
	}
	for i := range 1 + r.Intn(3) {
		m.Funcs = append(m.Funcs, api.Func{Name: "f" + strconv.Itoa(i), Params: r.types(3, r.typ), Ret: oneOf(r, 0, r.typ(), r.typ())})
	}
	for i := range m.Funcs {
		r.body(m, i)
	}
	return m
}

// body lays ends, then what is made ahead of them, and gives operands at last, when it is known what is made where.
func (r maker) body(m api.Module, n int) {
	f := &m.Funcs[n]
	f.Blocks = make([]api.Block, 1+r.Intn(6))
	for b := range f.Blocks {
		f.Blocks[b].Code = []api.Instr{r.end(*f, b)}
	}
	preds, names := graph.Preds(*f), r.names(len(f.Params))
	for b := range f.Blocks {
		var code []api.Instr
		for range r.Intn(4) {
			if b > 0 {
				code = append(code, api.Instr{Op: api.Phi, Type: r.typ(), To: preds[b], Args: make([]api.Value, len(preds[b]))})
			}
		}
		for range r.Intn(6) {
			code = append(code, r.instr(m, n, b))
		}
		for i, in := range code {
			code[i].Reg = -1
			if ir.Result(in) != api.Void {
				code[i].Reg, names = names[0], names[1:]
			}
		}
		f.Blocks[b].Code = append(code, f.Blocks[b].Code...)
	}
	r.operands(m, f)
}

// names are registers that may be made, each once.
func (r maker) names(least int) []int {
	names := r.Perm(100)
	for i := range names {
		names[i] += least
	}
	names[0] = api.MaxReg
	return names
}

// end goes on to blocks behind mostly, so that most runs come to an end.
func (r maker) end(f api.Func, b int) api.Instr {
	last := len(f.Blocks) - 1
	to := func() int {
		if b < last && r.Intn(5) > 0 {
			return b + 1 + r.Intn(last-b)
		}
		return 1 + r.Intn(last)
	}
	in := api.Instr{Op: oneOf(r, api.Br, api.Br, api.Brif, api.Brif, api.Brif, api.Brif, api.Ret), Reg: -1}
	if r.Intn(40) == 0 {
		in.Op = api.Halt
	} else if last == 0 || b == last && r.Intn(4) > 0 {
		in.Op = api.Ret
	}
	switch in.Op {
	case api.Br:
		in.To = []int{to()}
	case api.Brif:
		in.To, in.Args = []int{to(), to()}, make([]api.Value, 1)
	case api.Ret:
		in.Type = f.Ret
		if f.Ret != api.Void {
			in.Args = make([]api.Value, 1)
		}
	}
	return in
}

// instr is any other than a phi or an end, without operands.
func (r maker) instr(m api.Module, n, b int) api.Instr {
	if b == 0 && r.Intn(4) == 0 {
		return api.Instr{Op: api.Alloca, Type: api.Ptr, N: oneOf(r, 1, 8, 8, 12, 16, 16)}
	}
	two := make([]api.Value, 2)
	switch r.Intn(20) {
	case 0, 1, 2:
		return r.calculation()
	case 3, 4:
		op := api.Eq + r.Intn(6)
		if op > api.Ne {
			return api.Instr{Op: op, Type: r.number(), Args: two}
		}
		return api.Instr{Op: op, Type: r.typ(), Args: two}
	case 5:
		less := oneOf(r, 1, 8)
		return oneOf(r, api.Instr{Op: api.Zext, N: less, Type: 64, Args: two[:1]}, api.Instr{Op: api.Sext, N: less, Type: 16, Args: two[:1]}, api.Instr{Op: api.Trunc, N: 16, Type: less, Args: two[:1]})
	case 6:
		return api.Instr{Op: api.Select, Type: r.typ(), Args: make([]api.Value, 3)}
	case 7:
		return api.Instr{Op: api.Freeze, Type: r.typ(), Args: two[:1]}
	case 8, 9, 10:
		return api.Instr{Op: api.Load, Type: oneOf(r, r.typ(), r.number(), r.number()), Args: two[:1]}
	case 11, 12, 13, 14:
		return api.Instr{Op: api.Store, Type: r.typ(), Args: two}
	case 15, 16:
		return api.Instr{Op: api.Gep, Type: api.Ptr, Args: two}
	}
	in := api.Instr{Op: api.Call, N: r.callee(m, n)}
	params, ret, _ := ir.Callee(m, in.N)
	in.Type, in.Args = ret, make([]api.Value, len(params))
	return in
}

// callee is mostly an extern, or a function behind the one of number n, so that not all calls are deep.
func (r maker) callee(m api.Module, n int) int {
	switch {
	case len(m.Externs) > 0 && r.Intn(2) == 0:
		return -1 - r.Intn(len(m.Externs))
	case n+1 < len(m.Funcs) && r.Intn(6) > 0:
		return n + 1 + r.Intn(len(m.Funcs)-n-1)
	}
	return r.Intn(len(m.Externs)+len(m.Funcs)) - len(m.Externs)
}

func (r maker) calculation() api.Instr {
	in := api.Instr{Op: 1 + r.Intn(13), Type: r.number(), Args: make([]api.Value, 2)}
	may := []int{api.Add: 3, api.Sub: 3, api.Mul: 3, api.Udiv: 4, api.Sdiv: 4, api.Shl: 3, api.Lshr: 4, api.Ashr: 4, 15: 0}
	if r.Intn(5) == 0 {
		in.Flags = r.Intn(8) & may[in.Op]
	}
	return in
}

// wanted is the type of an instruction's operand.
func wanted(m api.Module, in api.Instr, k int) int {
	switch {
	case in.Op == api.Zext || in.Op == api.Sext || in.Op == api.Trunc:
		return in.N
	case in.Op == api.Select && k == 0 || in.Op == api.Brif:
		return 1
	case in.Op == api.Load || in.Op == api.Store && k == 1 || in.Op == api.Gep && k == 0:
		return api.Ptr
	case in.Op == api.Gep:
		return 64
	case in.Op == api.Call:
		params, _, _ := ir.Callee(m, in.N)
		return params[k]
	}
	return in.Type
}

func each(f api.Func, show func(b, i int, in api.Instr)) {
	for b := range f.Blocks {
		for i, in := range f.Blocks[b].Code {
			show(b, i, in)
		}
	}
}

// operands gives each one of the type that is wanted, a register where one stands ahead.
func (r maker) operands(m api.Module, f *api.Func) {
	idom := dom.Idom(*f)
	each(*f, func(b, i int, in api.Instr) {
		for k := range in.Args {
			need, at := b, i
			if in.Op == api.Phi {
				need, at = in.To[k], math.MaxInt
			}
			want := wanted(m, in, k)
			in.Args[k] = r.operand(m, in, want, registers(*f, idom, want, need, at))
		}
	})
}

// registers lists those of a type that stand ahead of a place.
func registers(f api.Func, idom []int, want, need, at int) []int {
	var all []int
	for reg, p := range f.Params {
		if p == want {
			all = append(all, reg)
		}
	}
	isAhead := make([]bool, len(f.Blocks))
	for b := idom[need]; b >= 0; b = idom[b] {
		isAhead[b] = true
	}
	each(f, func(b, i int, in api.Instr) {
		if ir.Result(in) == want && (isAhead[b] || b == need && i < at) {
			all = append(all, in.Reg)
		}
	})
	return all
}

func (r maker) operand(m api.Module, in api.Instr, want int, registers []int) api.Value {
	if isAddress := in.Op == api.Load || in.Op == api.Store; isAddress && want == api.Ptr && len(m.Vars) > 0 && r.Intn(3) > 0 {
		return api.Value{Kind: api.Global, N: r.Intn(len(m.Vars))}
	}
	// Small numbers are what most divisions, shifts and ways in a block need to be of use.
	isCareful := in.Op >= api.Udiv && in.Op <= api.Srem || in.Op >= api.Shl && in.Op <= api.Ashr || in.Op == api.Gep && want == 64
	if len(registers) > 0 && r.Intn(4) > 0 && !(isCareful && r.Intn(4) > 0) {
		// Those that were made last, mostly: so values are handed on.
		return api.Value{Kind: api.Reg, N: oneOf(r, registers[len(registers)-1], oneOf(r, registers...))}
	}
	if r.Intn(50) == 0 || in.Op == api.Freeze && r.Intn(3) == 0 {
		return api.Value{Kind: api.Poison}
	}
	if want == api.Ptr {
		if len(m.Vars) > 0 && r.Intn(15) > 0 {
			return api.Value{Kind: api.Global, N: r.Intn(len(m.Vars))}
		}
		return api.Value{Kind: api.Null}
	}
	most := uint64(math.MaxUint64) >> uint(64-want)
	small := uint64(r.Intn(6)) & most
	if in.Op == api.Gep || r.Intn(2) == 0 {
		return api.Value{Kind: api.Const, Bits: oneOf(r, small, 1)}
	}
	return api.Value{Kind: api.Const, Bits: oneOf(r, small, most, r.Uint64()&most)}
}

// val is of a type, or, at times, of none.
func (r maker) val(m api.Module, t int) api.Val {
	if r.Intn(10) == 0 {
		t = r.typ()
	}
	switch r.Intn(12) {
	case 0:
		return api.Val{}
	case 1:
		return api.Val{Kind: api.IsAny}
	case 2:
		return api.Val{Kind: oneOf(r, 0, 1, 2, 3, -1, 4, math.MaxInt), Bits: r.Uint64(), Block: r.block(m), Off: r.Int63()}
	}
	if t == api.Ptr {
		return api.Val{Kind: api.IsAddr, Block: r.block(m), Off: oneOf[int64](r, 0, 0, 1, 8, -1, math.MaxInt64)}
	}
	return api.Val{Kind: api.IsInt, Bits: oneOf(r, r.Uint64(), uint64(r.Intn(5)))}
}

func (r maker) block(m api.Module) int {
	if len(m.Vars) > 0 && r.Intn(3) > 0 {
		return r.Intn(len(m.Vars))
	}
	return oneOf(r, math.MinInt, -2, -1, -1, 0, len(m.Vars), len(m.Vars)+1, math.MaxInt)
}

// args are mostly as many as the function has Params.
func (r maker) args(m api.Module, fn int) []api.Val {
	var all []api.Val
	for _, t := range m.Funcs[fn].Params {
		all = append(all, r.val(m, t))
	}
	switch r.Intn(8) {
	case 0:
		all = all[:r.Intn(len(all)+1)]
	case 1:
		all = append(all, r.val(m, 8))
	}
	return all
}

func (r maker) script(m api.Module) []api.Reply {
	var all []api.Reply
	for range r.Intn(5) {
		reply := api.Reply{Ret: oneOf(r, uint64(r.Intn(4)), r.Uint64())}
		for range r.Intn(5) {
			w := api.Write{Var: r.Intn(3), At: r.Intn(10), Bits: byte(r.Intn(256))}
			switch r.Intn(6) {
			case 0:
				w.Var = r.block(m)
			case 1:
				w.At = oneOf(r, math.MinInt, -1, 0, 1, 2, 8, 9, 16, 24, math.MaxInt)
			}
			reply.Writes = append(reply.Writes, w)
		}
		all = append(all, reply)
	}
	return all
}

// better is a value that refines another one, as values of the type are read.
func (r maker) better(m api.Module, t int, v api.Val) api.Val {
	some := r.val(m, t)
	switch {
	case v == api.Val{} || v.Kind == api.IsAny && t == api.Ptr && some.Kind == api.IsAddr && isKnown(m, some):
		return some
	case v.Kind == api.IsAny && t != api.Ptr && some.Kind == api.IsInt:
		return some
	}
	return v
}

// isKnown tells whether an argument stays the address that it is.
func isKnown(m api.Module, v api.Val) bool {
	return -1 <= v.Block && v.Block < len(m.Vars)
}

// spoil changes a field of an instruction.
func (r maker) spoil(m *api.Module) {
	f := &m.Funcs[r.Intn(len(m.Funcs))]
	block := &f.Blocks[r.Intn(len(f.Blocks))]
	in := &block.Code[r.Intn(len(block.Code))]
	wild := oneOf(r, -1, 0, 1, 2, 3, 8, 16, 64, api.Ptr, 66, math.MinInt, math.MaxInt)
	switch r.Intn(8) {
	case 0:
		in.Op = oneOf(r, wild, 1+r.Intn(34))
	case 1:
		in.Reg = wild
	case 2:
		in.Type = wild
	case 3:
		in.N = wild
	case 4:
		in.Flags = wild
	case 5:
		in.To = append(slices.Clone(in.To), wild)
	case 6:
		in.Args = append(slices.Clone(in.Args), api.Value{Kind: r.Intn(7), N: wild})
	case 7:
		if len(in.Args) > 0 {
			in.Args[r.Intn(len(in.Args))] = api.Value{Kind: r.Intn(7), N: wild, Bits: oneOf[uint64](r, 0, 1, 300, math.MaxUint64)}
		}
	}
}
