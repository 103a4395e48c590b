package samples

import (
	"math"
	"slices"

	"lathe/api"
	"lathe/ir"
)

// operands gives each place that has none as yet an operand of its type; some instructions get those of one ahead, so that things are counted again.
func (w *writer) operands() {
	for b, block := range w.f.Blocks {
		for i, in := range block.Code {
			at := api.Place{Block: b, At: i}
			if args, ok := w.again(in, at); ok && w.In(25) {
				copy(in.Args, args)
			}
			for k, v := range in.Args {
				if v.Kind == 0 {
					in.Args[k] = w.operand(in, k, at)
				}
			}
		}
	}
}

// again finds the operands of an instruction like this one, that stands ahead and has got its own.
func (w *writer) again(in api.Instr, at api.Place) ([]api.Value, bool) {
	if in.Op == api.Phi || slices.ContainsFunc(in.Args, func(v api.Value) bool { return v.Kind != 0 }) {
		return nil, false
	}
	var found []api.Instr
	w.eachAhead(at, func(other api.Instr) {
		if other.Op == in.Op && other.Type == in.Type && other.N == in.N && !slices.ContainsFunc(other.Args, func(v api.Value) bool { return v.Kind == 0 }) {
			found = append(found, other)
		}
	})
	if len(found) == 0 {
		return nil, false
	}
	return OneOf(w.Maker, found...).Args, true
}

// eachAhead shows all instructions that stand ahead of a place, the nearest block's first.
func (w *writer) eachAhead(at api.Place, show func(in api.Instr)) {
	for b := at.Block; b != -1; b = w.idom[b] {
		code := w.f.Blocks[b].Code
		if b == at.Block {
			code = code[:min(at.At, len(code))]
		}
		for _, in := range slices.Backward(code) {
			show(in)
		}
	}
}

// registers lists those of a type that stand ahead of a place, the nearest ones first, but none of the Allocas that are loaded and stored alone.
func (w *writer) registers(want int, at api.Place) []int {
	var list []int
	w.eachAhead(at, func(in api.Instr) {
		if _, isHome := w.homes[in.Reg]; ir.Result(in) == want && !isHome {
			list = append(list, in.Reg)
		}
	})
	for reg, p := range w.f.Params {
		if p == want {
			list = append(list, reg)
		}
	}
	return list
}

func (w *writer) operand(in api.Instr, k int, at api.Place) api.Value {
	want := w.wanted(in, k)
	if in.Op == api.Phi {
		at = api.Place{Block: in.To[k], At: math.MaxInt}
	}
	if in.Op == api.Load || in.Op == api.Store && k == 1 {
		if v, ok := w.address(in.Type, at); ok && w.In(90) {
			return v
		}
	}
	list := w.registers(want, at)
	literals := w.literals
	if isTold := in.Op == api.Ret || in.Op == api.Call || in.Op == api.Store; isTold {
		literals /= 4
	}
	switch {
	case isCareful(in, k) && w.In(92):
		return w.small(in, want)
	case len(list) == 0 || w.In(literals):
		return w.literal(in, want)
	}
	// The nearest ones mostly: so values are handed on.
	return api.Value{Kind: api.Reg, N: OneOf(w.Maker, list[0], list[w.Below(min(len(list), 3))], OneOf(w.Maker, list...))}
}

// isCareful: what most divisions, shifts and ways in a block need to be of use is a small number.
func isCareful(in api.Instr, k int) bool {
	isDivision := in.Op >= api.Udiv && in.Op <= api.Srem
	isShift := in.Op >= api.Shl && in.Op <= api.Ashr
	return k == 1 && (isDivision || isShift || in.Op == api.Gep)
}

func (w *writer) small(in api.Instr, want int) api.Value {
	most := uint64(math.MaxUint64) >> (64 - want)
	switch {
	case in.Op == api.Gep:
		return api.Value{Kind: api.Const, Bits: OneOf(w.Maker, 0, 0, 1, 4, 4, most, uint64(w.Below(9)))}
	case in.Op >= api.Shl:
		return api.Value{Kind: api.Const, Bits: uint64(w.Below(want)) & most}
	}
	return api.Value{Kind: api.Const, Bits: OneOf(w.Maker, 1, most, max(1, w.Bits()&most), 1<<w.Below(want))}
}

// address is one that a Load or a Store of a type may have, and be defined.
func (w *writer) address(t int, at api.Place) (api.Value, bool) {
	var list []api.Value
	w.eachAhead(at, func(in api.Instr) {
		if home, isHome := w.homes[in.Reg]; isHome && home == t {
			list = append(list, api.Value{Kind: api.Reg, N: in.Reg})
		}
	})
	if len(list) > 0 && w.In(60) {
		return OneOf(w.Maker, list...), true
	}
	for n, v := range w.m.Vars {
		if bytes(t) <= v.Size {
			list = append(list, api.Value{Kind: api.Global, N: n})
		}
	}
	if len(list) == 0 {
		return api.Value{}, false
	}
	return OneOf(w.Maker, list...), true
}

func (w *writer) literal(in api.Instr, want int) api.Value {
	if w.In(1) || in.Op == api.Freeze && w.In(30) {
		return api.Value{Kind: api.Poison}
	}
	if want == api.Ptr {
		if w.In(8) {
			return api.Value{Kind: api.Null}
		}
		return api.Value{Kind: api.Global, N: w.Below(len(w.m.Vars))}
	}
	most := uint64(math.MaxUint64) >> (64 - want)
	small := uint64(w.Below(5)) & most
	return api.Value{Kind: api.Const, Bits: OneOf(w.Maker, small, small, 1, most, 1<<w.Below(want), w.Bits()&most)}
}
