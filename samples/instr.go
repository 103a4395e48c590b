package samples

import (
	"lathe/api"
	"lathe/ir"
)

// instr is any other than a Phi or an end, as yet without operands and without a register.
func (w *writer) instr(b int) api.Instr {
	t := OneOf(w.Maker, w.types...)
	switch w.Below(20) {
	case 0:
		return api.Instr{Op: api.Select, Type: t, Args: make([]api.Value, 3)}
	case 1:
		return api.Instr{Op: api.Freeze, Type: t, Args: make([]api.Value, 1)}
	case 2, 3, 4:
		return api.Instr{Op: api.Load, Type: t, Args: make([]api.Value, 1)}
	case 5, 6, 7:
		return api.Instr{Op: api.Store, Type: t, Args: make([]api.Value, 2)}
	case 8, 9:
		return api.Instr{Op: api.Gep, Type: api.Ptr, Args: make([]api.Value, 2)}
	case 10:
		return w.call(w.callee())
	case 11:
		if b == 0 && w.In(50) {
			return api.Instr{Op: api.Alloca, Type: api.Ptr, N: 8}
		}
		return api.Instr{Op: OneOf(w.Maker, api.Eq, api.Ne), Type: t, Args: make([]api.Value, 2)}
	case 12:
		return api.Instr{Op: api.Eq + w.Below(6), Type: w.width(), Args: make([]api.Value, 2)}
	case 13, 14:
		return w.conversion()
	}
	return w.calculation()
}

// width is a type of a number, mostly of more than one bit.
func (w *writer) width() int {
	for {
		if t := OneOf(w.Maker, w.types...); t != api.Ptr && (t > 1 || w.In(30)) {
			return t
		}
	}
}

func (w *writer) conversion() api.Instr {
	in := api.Instr{Op: OneOf(w.Maker, api.Zext, api.Sext, api.Trunc), Args: make([]api.Value, 1)}
	a, b := w.width(), OneOf(w.Maker, 1, w.width())
	switch {
	case a == b:
		return w.calculation()
	case in.Op == api.Trunc:
		in.N, in.Type = max(a, b), min(a, b)
	default:
		in.N, in.Type = min(a, b), max(a, b)
	}
	return in
}

func (w *writer) calculation() api.Instr {
	op := 1 + w.Below(api.Ashr)
	if op >= api.Udiv && op <= api.Srem && w.In(60) {
		op = OneOf(w.Maker, api.Add, api.Sub, api.Mul, api.Xor)
	}
	in := api.Instr{Op: op, Type: w.width(), Args: make([]api.Value, 2)}
	if w.In(10) {
		in.Flags = w.flags(op)
	}
	return in
}

func (w *writer) flags(op int) int {
	switch op {
	case api.Add, api.Sub, api.Mul, api.Shl:
		return w.Below(4)
	case api.Udiv, api.Sdiv, api.Lshr, api.Ashr:
		return OneOf(w.Maker, 0, api.Exact)
	}
	return 0
}

// callee is an extern mostly, or a function behind this one, so that not all calls are deep.
func (w *writer) callee() int {
	behind := len(w.m.Funcs) - 1 - w.n
	switch {
	case behind > 0 && w.In(60):
		return w.n + 1 + w.Below(behind)
	case w.In(5):
		return w.Below(len(w.m.Funcs))
	}
	return OneOf(w.Maker, tells, tells, asks)
}

func (w *writer) call(n int) api.Instr {
	params, ret, _ := ir.Callee(w.m, n)
	return api.Instr{Op: api.Call, N: n, Type: ret, Args: make([]api.Value, len(params))}
}

// wanted is the type of an instruction's operand.
func (w *writer) wanted(in api.Instr, k int) int {
	switch in.Op {
	case api.Zext, api.Sext, api.Trunc:
		return in.N
	case api.Brif:
		return 1
	case api.Select:
		return []int{1, in.Type, in.Type}[k]
	case api.Load:
		return api.Ptr
	case api.Store:
		return []int{in.Type, api.Ptr}[k]
	case api.Gep:
		return []int{api.Ptr, 64}[k]
	case api.Call:
		params, _, _ := ir.Callee(w.m, in.N)
		return params[k]
	}
	return in.Type
}
