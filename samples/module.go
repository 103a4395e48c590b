package samples

import (
	"strconv"

	"lathe/api"
	"lathe/dom"
	"lathe/graph"
	"lathe/ir"
)

// The externs of all modules: asks tells which way to go, so that runs go round and come to an end; tells is told a number.
const (
	asks  = -1
	tells = -2
)

// style is what the functions of one module have in common.
type style struct {
	types    []int // of what is made; some stand in it more than once
	literals int   // so many of a hundred operands
	blocks   int   // at most
	code     int   // at most so many instructions that are neither Phis nor ends, a block
}

func (r *Maker) style() style {
	return style{
		types: OneOf(r,
			[]int{8, 8, 8, 1, api.Ptr},
			[]int{8, 8, 1, api.Ptr, api.Ptr},
			[]int{8, 8, 16, 64, 1, api.Ptr},
			[]int{2, 2, 1, api.Ptr},
			[]int{32, 32, 64, 8, 1, 3, api.Ptr}),
		literals: OneOf(r, 5, 10, 20, 50),
		blocks:   OneOf(r, 2, 4, 6, 9, 9, 14),
		code:     OneOf(r, 4, 6, 9),
	}
}

// Module is right; most of its runs are defined, and come to an end.
func (r *Maker) Module() api.Module {
	s := r.style()
	m := api.Module{Externs: []api.Extern{{Name: "y", Ret: 1}, {Name: "x", Params: []int{s.types[0]}, Ret: s.types[0]}}}
	for i := range 1 + r.Below(3) {
		m.Vars = append(m.Vars, api.Var{Name: "g" + strconv.Itoa(i), Size: OneOf(r, 8, 8, 16, 24, 1+r.Below(8))})
	}
	for i := range OneOf(r, 1, 1, 2, 3) {
		f := api.Func{Name: "f" + strconv.Itoa(i), Ret: OneOf(r, api.Void, OneOf(r, s.types...), s.types[0], s.types[0])}
		for range r.Below(5) {
			f.Params = append(f.Params, OneOf(r, s.types...))
		}
		m.Funcs = append(m.Funcs, f)
	}
	for n := range m.Funcs {
		w := writer{Maker: r, style: s, m: m, n: n, f: &m.Funcs[n], homes: map[int]int{}}
		w.write()
	}
	return m
}

// writer writes a function of a module, of which as yet only Params and Ret are told.
type writer struct {
	*Maker
	style
	m     api.Module
	n     int
	f     *api.Func
	idom  []int
	names []int       // registers that may be made yet
	homes map[int]int // of each Alloca that is loaded and stored alone, with which Type
}

// write lays ends, then what is made ahead of them, and gives operands at last, when it is known what is made where.
func (w *writer) write() {
	w.ends(w.f, 1+w.Below(w.blocks))
	w.names = w.shuffled(len(w.f.Params), 2*api.MaxCode)
	w.names[w.Below(5)] = api.MaxReg
	w.idom = dom.Idom(*w.f)
	preds := graph.Preds(*w.f)
	for b := range w.f.Blocks {
		var code []api.Instr
		if b == 0 {
			code = w.allocas()
		} else {
			code = w.phis(preds[b])
		}
		for range w.Below(w.code + 1) {
			code = append(code, w.named(w.instr(b)))
		}
		if w.In(40) {
			code = append(code, w.named(w.call(tells)))
		}
		end := w.f.Blocks[b].Code[0]
		if end.Op == api.Brif && w.In(85) {
			ask := w.named(w.call(asks))
			code = append(code, ask)
			end.Args[0] = api.Value{Kind: api.Reg, N: ask.Reg}
		}
		w.f.Blocks[b].Code = append(code, end)
	}
	w.operands()
}

func (w *writer) named(in api.Instr) api.Instr {
	in.Reg = -1
	if ir.Result(in) != api.Void {
		in.Reg, w.names = w.names[0], w.names[1:]
	}
	return in
}

// allocas makes some, most of which have something in them from the beginning on; half of them are loaded and stored alone.
func (w *writer) allocas() []api.Instr {
	var code []api.Instr
	for range w.Below(4) {
		t := OneOf(w.Maker, w.types...)
		in := w.named(api.Instr{Op: api.Alloca, Type: api.Ptr, N: bytes(t) + OneOf(w.Maker, 0, 0, w.Below(9))})
		if w.In(2) {
			in.N = 1
		}
		code = append(code, in)
		store := api.Instr{Op: api.Store, Reg: -1, Type: t, Args: make([]api.Value, 2)}
		store.Args[1] = api.Value{Kind: api.Reg, N: in.Reg}
		if w.In(50) {
			w.homes[in.Reg] = store.Type
		}
		if w.In(75) {
			code = append(code, store)
		}
	}
	return code
}

// bytes is how many a type has.
func bytes(t int) int {
	return (min(t, 64) + 7) / 8
}

func (w *writer) phis(preds []int) []api.Instr {
	var code []api.Instr
	for range w.Below(4) {
		in := api.Instr{Op: api.Phi, Type: OneOf(w.Maker, w.types...), Args: make([]api.Value, len(preds))}
		in.To = append(in.To, preds...)
		code = append(code, w.named(in))
	}
	return code
}
