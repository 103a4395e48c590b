package comb_test

import (
	"slices"

	"lathe/api"
	"lathe/bits"
	"lathe/dom"
	"lathe/graph"
	"lathe/ir"
	"lathe/samples"
)

func number(n uint64) api.Value { return api.Value{Kind: api.Const, Bits: n} }
func global(n int) api.Value    { return api.Value{Kind: api.Global, N: n} }
func reg(n int) api.Value       { return api.Value{Kind: api.Reg, N: n} }

var (
	poison = api.Value{Kind: api.Poison}
	null   = api.Value{Kind: api.Null}
)

// tells are the externs of a module, each of which is told what is of its type.
func tells() []api.Extern {
	var all []api.Extern
	for i, t := range widths() {
		all = append(all, api.Extern{Name: string(rune('s' + i)), Params: []int{t}})
	}
	return all
}

func widths() []int { return []int{1, 2, 8, 16, 64} }

// module is right, of one function in which one rule makes way for another; what it makes is told to the outside.
func module(r *samples.Maker, most int) api.Module {
	m := api.Module{Vars: []api.Var{{Name: "g", Size: 8}, {Name: "h", Size: 3}}, Externs: tells()}
	f := api.Func{Name: "f", Params: []int{8, 1, api.Ptr, 64, 8}, Ret: samples.OneOf(r, 8, 8, 1, 64, api.Ptr)}
	w := writer{Maker: r, f: &f, at: map[int][]made{}, by: map[int]api.Instr{}, types: samples.OneOf(r, []int{8}, []int{1, 1, 8}, []int{1, 1, 2, 8}, []int{64, 8, 1, 16}), most: most}
	w.write()
	m.Funcs = []api.Func{f}
	return m
}

// made is a register, and its type.
type made struct{ reg, typ int }

type writer struct {
	*samples.Maker
	f     *api.Func
	idom  []int
	at    map[int][]made    // what each block makes
	next  int               // the least register that nothing has made yet
	by    map[int]api.Instr // what made a register
	types []int             // of most calculations
	most  int               // instructions of a block, but for Phis and its end
}

// write lays the ends first, then what blocks make, each behind the one that dominates it, and at last what comes from any block.
func (w *writer) write() {
	w.next = len(w.f.Params)
	w.ends(w.order(1 + w.Below(7)))
	w.idom = dom.Idom(*w.f)
	tree := dom.Tree(*w.f)
	var fill func(b int)
	fill = func(b int) {
		w.fill(b)
		for _, child := range tree[b] {
			fill(child)
		}
	}
	fill(0)
	for b, reached := range graph.Reach(*w.f) {
		if !reached {
			w.fill(b)
			w.tangle(b)
		}
	}
	w.phis()
}

// order lists the blocks in that order in which most of them follow each other.
func (w *writer) order(blocks int) []int {
	order := []int{0}
	for b := 1; b < blocks; b++ {
		order = slices.Insert(order, 1+w.Below(len(order)), b)
	}
	return order
}

func (w *writer) ends(order []int) {
	w.f.Blocks = make([]api.Block, len(order))
	for i, b := range order {
		end := api.Instr{Op: api.Ret, Reg: -1, Type: w.f.Ret, Args: make([]api.Value, 1)}
		if i < len(order)-1 && w.In(95) {
			behind := order[i+1:]
			end = api.Instr{Op: api.Br, Reg: -1, To: []int{behind[0]}}
			if w.In(45) {
				end = api.Instr{Op: api.Brif, Reg: -1, Args: make([]api.Value, 1), To: []int{behind[0], samples.OneOf(w.Maker, samples.OneOf(w.Maker, order[1:]...), samples.OneOf(w.Maker, behind...))}}
			}
		}
		w.f.Blocks[b].Code = []api.Instr{end}
	}
}

// fill writes what a block makes; of its Phis there are as yet no operands.
func (w *writer) fill(b int) {
	preds := graph.Preds(*w.f)[b]
	var code []api.Instr
	for range w.Below(3) {
		if b > 0 {
			in := api.Instr{Op: api.Phi, Type: w.typ(), To: slices.Clone(preds), Args: make([]api.Value, len(preds))}
			code = append(code, w.named(b, in))
		}
	}
	for range w.Below(w.most + 1) {
		in := w.instr(b)
		code = append(code, w.named(b, in))
		if t := slices.Index(widths(), ir.Result(in)); t != -1 && w.In(15) {
			code = append(code, api.Instr{Op: api.Call, Reg: -1, N: -1 - t, Args: []api.Value{reg(w.next - 1)}})
		}
	}
	end := w.f.Blocks[b].Code[0]
	switch end.Op {
	case api.Ret:
		end.Args[0] = w.operand(b, end.Type)
	case api.Brif:
		end.Args[0] = w.operand(b, 1)
	}
	w.f.Blocks[b].Code = append(code, end)
}

func (w *writer) named(b int, in api.Instr) api.Instr {
	in.Reg = w.next
	w.next++
	w.at[b] = append(w.at[b], made{in.Reg, ir.Result(in)})
	w.by[in.Reg] = in
	return in
}

// tangle lets operands of a block that isn't reachable be any registers of their type, their own too.
func (w *writer) tangle(b int) {
	for _, in := range w.f.Blocks[b].Code {
		for k, v := range in.Args {
			if v.Kind == api.Reg && w.In(40) {
				in.Args[k] = w.anywhere(v)
			}
		}
	}
}

// anywhere is a register of any block of the type of that which is told.
func (w *writer) anywhere(v api.Value) api.Value {
	var list []made
	for b := range w.f.Blocks {
		list = append(list, w.at[b]...)
	}
	typ := 0
	for _, m := range list {
		if m.reg == v.N {
			typ = m.typ
		}
	}
	list = slices.DeleteFunc(list, func(m made) bool { return m.typ != typ })
	if len(list) == 0 {
		return v
	}
	return reg(samples.OneOf(w.Maker, list...).reg)
}

func (w *writer) phis() {
	for _, block := range w.f.Blocks {
		for _, in := range block.Code {
			if in.Op == api.Phi {
				for k, from := range in.To {
					in.Args[k] = w.operand(from, in.Type)
				}
			}
		}
	}
}

func (w *writer) typ() int {
	if w.In(20) {
		return samples.OneOf(w.Maker, append(widths(), api.Ptr)...)
	}
	return samples.OneOf(w.Maker, w.types...)
}

// width is a type of a number.
func (w *writer) width() int {
	for {
		if t := w.typ(); t != api.Ptr {
			return t
		}
	}
}

// registers lists those of a type at the end of a block as it is by now, the last ones first.
func (w *writer) registers(b, typ int) []int {
	var list []int
	for ; b != -1; b = w.idom[b] {
		for _, m := range slices.Backward(w.at[b]) {
			if m.typ == typ {
				list = append(list, m.reg)
			}
		}
	}
	for n, t := range w.f.Params {
		if t == typ {
			list = append(list, n)
		}
	}
	return list
}

// operand is a register mostly, and the one made last more often than others.
func (w *writer) operand(b, typ int) api.Value {
	list := w.registers(b, typ)
	if len(list) == 0 || w.In(8) {
		return w.literal(typ)
	}
	return reg(samples.OneOf(w.Maker, list[0], list[0], samples.OneOf(w.Maker, list...)))
}

// literal is mostly one that rules ask for.
func (w *writer) literal(typ int) api.Value {
	switch {
	case w.In(4):
		return poison
	case typ == api.Ptr:
		return samples.OneOf(w.Maker, null, global(0), global(1))
	}
	all := bits.Mask(typ)
	return number(samples.OneOf(w.Maker, 0, 1, 1, all, uint64(1)<<w.Below(typ), uint64(1)<<w.Below(typ), w.Bits(), uint64(w.Below(9))) & all)
}

// instr is one that may be ruled, or an Alloca.
func (w *writer) instr(b int) api.Instr {
	switch w.Below(16) {
	case 0, 1, 2:
		return w.conversion(b)
	case 3, 4:
		t := w.typ()
		return api.Instr{Op: api.Select, Type: t, Args: []api.Value{w.operand(b, 1), w.one(b, t), w.one(b, t)}}
	case 5:
		t := w.typ()
		return api.Instr{Op: api.Freeze, Type: t, Args: []api.Value{w.one(b, t)}}
	case 6:
		return api.Instr{Op: api.Gep, Type: api.Ptr, Args: []api.Value{w.operand(b, api.Ptr), samples.OneOf(w.Maker, number(0), w.one(b, 64))}}
	case 7:
		t := w.typ()
		return w.two(b, api.Instr{Op: samples.OneOf(w.Maker, api.Eq, api.Ne), Type: t})
	case 8, 9:
		return w.two(b, api.Instr{Op: api.Eq + w.Below(6), Type: w.width()})
	case 10:
		return w.two(b, api.Instr{Op: samples.OneOf(w.Maker, api.Udiv, api.Sdiv, api.Urem, api.Srem), Type: w.width()})
	case 11:
		return w.two(b, api.Instr{Op: 1 + w.Below(api.Ashr), Type: w.width()})
	case 12:
		if b == 0 && w.In(30) {
			return api.Instr{Op: api.Alloca, Type: api.Ptr, N: 8}
		}
	case 13, 14, 15:
		if in, ok := w.behind(b); ok {
			return in
		}
	}
	return w.two(b, api.Instr{Op: samples.OneOf(w.Maker, api.Add, api.Add, api.Sub, api.Mul, api.And, api.Or, api.Xor, api.Xor), Type: w.width()})
}

// behind is one that rules 11, 12 and 17 to 20 name beside what made its operand.
func (w *writer) behind(b int) (api.Instr, bool) {
	list := w.registers(b, w.typ())
	if len(list) == 0 {
		return api.Instr{}, false
	}
	y := samples.OneOf(w.Maker, list[0], samples.OneOf(w.Maker, list...))
	maker := w.by[y]
	args := []api.Value{reg(y)}
	switch maker.Op {
	case api.Add, api.Xor, api.Mul, api.And, api.Or:
		args = append(args, w.literal(maker.Type))
		switch {
		case maker.Op == api.Xor && maker.Type == 1 && w.In(50):
			t := w.typ()
			return api.Instr{Op: api.Select, Type: t, Args: []api.Value{reg(y), w.one(b, t), w.one(b, t)}}, true
		case w.In(30):
			return api.Instr{Op: samples.OneOf(w.Maker, api.Eq, api.Ne), Type: maker.Type, Args: args}, true
		}
		return api.Instr{Op: maker.Op, Type: maker.Type, Args: args}, true
	case api.Freeze:
		return api.Instr{Op: api.Freeze, Type: maker.Type, Args: args}, true
	case api.Zext, api.Sext:
		return api.Instr{Op: api.Trunc, Type: maker.N, N: maker.Type, Args: args}, true
	}
	return api.Instr{}, false
}

// one is any operand.
func (w *writer) one(b, typ int) api.Value {
	if w.In(30) {
		return w.literal(typ)
	}
	return w.operand(b, typ)
}

// two gives a comparison or a calculation operands, mostly such that a rule is near.
func (w *writer) two(b int, in api.Instr) api.Instr {
	if in.Op <= api.Ashr && w.In(12) {
		in.Flags = w.Below(8) & bits.Flags(in.Op)
	}
	if in.Op >= api.Ult && in.Type == api.Ptr {
		in.Type = 8
	}
	x := w.operand(b, in.Type)
	y := samples.OneOf(w.Maker, w.literal(in.Type), w.literal(in.Type), w.literal(in.Type), w.operand(b, in.Type), x)
	isDivision := in.Op >= api.Udiv && in.Op <= api.Srem
	if isDivision && (y == poison || y == number(0) || y.Kind == api.Reg) && w.In(97) {
		y = number(1)
	}
	in.Args = []api.Value{x, y}
	if !isDivision && w.In(20) {
		in.Args = []api.Value{y, x}
	}
	return in
}

func (w *writer) conversion(b int) api.Instr {
	i := w.Below(len(widths()) - 1)
	k := i + 1 + w.Below(len(widths())-1-i)
	in := api.Instr{Op: samples.OneOf(w.Maker, api.Zext, api.Sext), Type: widths()[k], N: widths()[i]}
	if w.In(50) {
		in = api.Instr{Op: api.Trunc, Type: widths()[i], N: widths()[k]}
	}
	in.Args = []api.Value{w.operand(b, in.N)}
	return in
}
