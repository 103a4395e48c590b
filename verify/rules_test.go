package verify_test

import (
	"regexp"
	"slices"

	"lathe/api"
)

// told is a fault that a module has, and where the chapter's order has it.
type told struct {
	rank  []int
	rule  string // the rule's number in the chapter, and what it asks
	code  api.Errno
	place api.Place
}

// rules finds all faults of a module, in whichever order.
type rules struct {
	m   api.Module
	all []told
}

// firstByRules is what the chapter tells of Check: of all faults the one that its order has first.
func firstByRules(m api.Module) told {
	r := &rules{m: m}
	r.vars()
	r.heads()
	for n := range m.Funcs {
		r.body(n)
	}
	if len(r.all) == 0 {
		return told{rule: "right"}
	}
	return slices.MinFunc(r.all, func(a, b told) int { return slices.Compare(a.rank, b.rank) })
}

func (r *rules) tell(is bool, rule string, code api.Errno, place api.Place, rank ...int) {
	if is {
		r.all = append(r.all, told{rank, rule, code, place})
	}
}

var wordByRules = regexp.MustCompile(`^[a-z_][a-z0-9_]*$`)

func (r *rules) vars() {
	out := api.Place{Func: -1}
	r.tell(len(r.m.Vars) > 8 || len(r.m.Externs) > 8 || len(r.m.Funcs) > 8, "1 too many", api.ErrLimit, out, 1, 0)
	for i, v := range r.m.Vars {
		r.tell(!wordByRules.MatchString(v.Name), "1 name", api.ErrName, out, 1, 1, i, 0)
		for _, other := range r.m.Vars[:i] {
			r.tell(other.Name == v.Name, "1 twice", api.ErrTwice, out, 1, 1, i, 1)
		}
		r.tell(v.Size < 1 || v.Size > 64, "1 size", api.ErrLimit, out, 1, 1, i, 2)
	}
}

func (r *rules) heads() {
	var names []string
	head := func(name string, params []int, ret, most, n int) {
		place, k := api.Place{Func: n}, len(names)
		r.tell(!wordByRules.MatchString(name), "2 name", api.ErrName, place, 2, k, 0)
		r.tell(slices.Contains(names, name), "2 twice", api.ErrTwice, place, 2, k, 1)
		r.tell(len(params) > 8, "2 params", api.ErrLimit, place, 2, k, 2)
		for _, p := range params {
			r.tell(p < 1 || p > most, "2 param", api.ErrType, place, 2, k, 3)
		}
		r.tell(ret < 0 || ret > most, "2 ret", api.ErrType, place, 2, k, 3)
		names = append(names, name)
	}
	for _, x := range r.m.Externs {
		head(x.Name, x.Params, x.Ret, 64, -1)
	}
	for n, f := range r.m.Funcs {
		head(f.Name, f.Params, f.Ret, 65, n)
	}
}

// eachByRules shows the instructions of a function.
func eachByRules(f api.Func, show func(b, i int, in api.Instr)) {
	for b := range f.Blocks {
		for i := range f.Blocks[b].Code {
			show(b, i, f.Blocks[b].Code[i])
		}
	}
}

func (r *rules) body(n int) {
	f, size := r.m.Funcs[n], 0
	eachByRules(f, func(b, i int, in api.Instr) { size++ })
	r.tell(len(f.Blocks) < 1 || len(f.Blocks) > 64, "3.1 blocks", api.ErrLimit, api.Place{Func: n}, 3, n, 1)
	r.tell(size > 400, "3.1 code", api.ErrLimit, api.Place{Func: n}, 3, n, 1)
	for b, block := range f.Blocks {
		r.ends(n, b, block.Code, len(f.Blocks))
	}
	eachByRules(f, func(b, i int, in api.Instr) {
		r.form(n, b, i, in)
		r.made(n, b, i, in)
		r.operands(n, b, i, in)
	})
	if len(f.Blocks) <= 64 && size <= 400 {
		r.ways(n)
	}
}

func isEnd(op int) bool { return op >= 31 && op <= 34 }

func (r *rules) ends(n, b int, code []api.Instr, blocks int) {
	if len(code) == 0 {
		r.tell(true, "3.2 nothing", api.ErrEnd, api.Place{Func: n, Block: b}, 3, n, 2, b, 0)
		return
	}
	last := len(code) - 1
	r.tell(!isEnd(code[last].Op), "3.2 end", api.ErrEnd, api.Place{Func: n, Block: b}, 3, n, 2, b, 0)
	for i, in := range code[:last] {
		r.tell(isEnd(in.Op), "3.2 other end", api.ErrEnd, api.Place{Func: n, Block: b, At: i}, 3, n, 2, b, 1, i)
	}
	for _, to := range code[last].To {
		r.tell(to == 0 || to < 0 || to >= blocks, "3.2 to", api.ErrBlock, api.Place{Func: n, Block: b, At: last}, 3, n, 2, b, 2)
	}
}

// What a row's columns may hold beside numbers and types.
const (
	anyNumber = -1 // as many as there are
	typ       = -2 // the Type
	from      = -3 // the N
)

// row is one of the chapter's table.
type row struct {
	args, to int
	fixed    int   // the Type that the form fixes; typ, if it doesn't
	most     int   // how great the Type may be; 0, if something else is asked of it
	wanted   []int // of each operand; the last one stands for all behind it
}

func (r *rules) rowOf(n, op int) (row, bool) {
	switch {
	case op >= 1 && op <= 13:
		return row{2, 0, typ, 64, []int{typ}}, true
	case op == 14 || op == 15:
		return row{2, 0, typ, 65, []int{typ}}, true
	case op >= 16 && op <= 19:
		return row{2, 0, typ, 64, []int{typ}}, true
	case op >= 20 && op <= 22:
		return row{1, 0, typ, 0, []int{from}}, true
	}
	switch op {
	case api.Select:
		return row{3, 0, typ, 65, []int{1, typ}}, true
	case api.Freeze:
		return row{1, 0, typ, 65, []int{typ}}, true
	case api.Load:
		return row{1, 0, typ, 65, []int{65}}, true
	case api.Phi:
		return row{anyNumber, anyNumber, typ, 65, []int{typ}}, true
	case api.Alloca:
		return row{0, 0, 65, 0, nil}, true
	case api.Store:
		return row{2, 0, typ, 65, []int{typ, 65}}, true
	case api.Gep:
		return row{2, 0, 65, 0, []int{65, 64}}, true
	case api.Call:
		return row{anyNumber, 0, typ, 0, nil}, true
	case api.Br:
		return row{0, 1, 0, 0, nil}, true
	case api.Brif:
		return row{1, 2, 0, 0, []int{1}}, true
	case api.Ret:
		if r.m.Funcs[n].Ret == 0 {
			return row{0, 0, typ, 0, nil}, true
		}
		return row{1, 0, typ, 0, []int{typ}}, true
	case api.Halt:
		return row{0, 0, 0, 0, nil}, true
	}
	return row{}, false
}

// resultByRules is the type of what an instruction makes.
func resultByRules(in api.Instr) int {
	switch {
	case in.Op < 1 || in.Op > 34 || in.Op == 28 || isEnd(in.Op):
		return 0
	case in.Op >= 14 && in.Op <= 19:
		return 1
	case in.Op == 26 || in.Op == 29:
		return 65
	}
	return in.Type
}

// calledBy is the head of what a call calls.
func (r *rules) calledBy(in api.Instr) (api.Extern, bool) {
	for i, x := range r.m.Externs {
		if in.N == -1-i {
			return x, true
		}
	}
	for i, f := range r.m.Funcs {
		if in.N == i {
			return api.Extern{Params: f.Params, Ret: f.Ret}, true
		}
	}
	return api.Extern{}, false
}

func (r *rules) form(n, b, i int, in api.Instr) {
	place := api.Place{Func: n, Block: b, At: i}
	tell := func(is bool, rule string, code api.Errno, k int) { r.tell(is, rule, code, place, 3, n, 3, b, i, k) }
	row, ok := r.rowOf(n, in.Op)
	tell(!ok, "3.3 op", api.ErrForm, 0)
	if !ok {
		return
	}
	tell(row.args != anyNumber && len(in.Args) != row.args, "3.3 args", api.ErrForm, 0)
	tell(row.to != anyNumber && len(in.To) != row.to, "3.3 to", api.ErrForm, 0)
	tell(in.Op == api.Phi && len(in.Args) != len(in.To), "3.3 phi", api.ErrForm, 0)
	converts := in.Op == api.Zext || in.Op == api.Sext || in.Op == api.Trunc
	tell(in.N != 0 && !converts && in.Op != api.Alloca && in.Op != api.Call, "3.3 n", api.ErrForm, 0)
	tell(in.Reg == -1 && resultByRules(in) != 0, "3.3 no reg", api.ErrForm, 0)
	tell(in.Reg != -1 && resultByRules(in) == 0, "3.3 reg", api.ErrForm, 0)
	tell(in.Op == api.Alloca && b != 0, "3.3 alloca's block", api.ErrForm, 0)
	tell(in.Op == api.Alloca && (in.N < 1 || in.N > 64), "3.3 alloca's size", api.ErrForm, 0)
	tell(row.fixed != typ && in.Type != row.fixed, "3.3 fixed type", api.ErrForm, 0)
	flags := 0
	if in.Op == api.Add || in.Op == api.Sub || in.Op == api.Mul || in.Op == api.Shl {
		flags = 1 | 2
	}
	if in.Op == api.Udiv || in.Op == api.Sdiv || in.Op == api.Lshr || in.Op == api.Ashr {
		flags = 4
	}
	tell(in.Flags|flags != flags, "3.3 flags", api.ErrFlags, 1)
	tell(row.most > 0 && (in.Type < 1 || in.Type > row.most), "3.3 type", api.ErrType, 2)
	less, more := in.N, in.Type
	if in.Op == api.Trunc {
		less, more = in.Type, in.N
	}
	tell(converts && !(1 <= less && less < more && more <= 64), "3.3 conversion", api.ErrType, 2)
	tell(in.Op == api.Ret && in.Type != r.m.Funcs[n].Ret, "3.3 ret", api.ErrType, 2)
	if in.Op == api.Call {
		x, ok := r.calledBy(in)
		tell(!ok, "3.3 callee", api.ErrName, 2)
		tell(in.Type != x.Ret, "3.3 call's type", api.ErrType, 3)
		tell(len(in.Args) != len(x.Params), "3.3 call's args", api.ErrArgs, 4)
	}
}

func (r *rules) made(n, b, i int, in api.Instr) {
	place, f := api.Place{Func: n, Block: b, At: i}, r.m.Funcs[n]
	if resultByRules(in) == 0 {
		return
	}
	r.tell(in.Reg < len(f.Params) || in.Reg > 4095, "3.4 reg", api.ErrReg, place, 3, n, 4, b, i, 0)
	eachByRules(f, func(c, j int, other api.Instr) {
		ahead := c < b || c == b && j < i
		r.tell(ahead && other.Reg == in.Reg && resultByRules(other) != 0, "3.4 twice", api.ErrTwice, place, 3, n, 4, b, i, 1)
	})
}

// typeByRules is the type of a register, and the place of what makes it (Block -1 of an argument, and of what nothing makes).
func typeByRules(f api.Func, reg int) (int, api.Place) {
	t, place := 0, api.Place{Block: -1}
	if reg >= 0 && reg < len(f.Params) {
		return f.Params[reg], place
	}
	if reg < 0 || reg > 4095 {
		return 0, place
	}
	eachByRules(f, func(b, i int, in api.Instr) {
		if t == 0 && in.Reg == reg && resultByRules(in) != 0 {
			t, place = resultByRules(in), api.Place{Block: b, At: i}
		}
	})
	return t, place
}

// wantedBy tells the type that an instruction wants of an operand, if it has one there.
func (r *rules) wantedBy(n int, in api.Instr, i int) (int, bool) {
	wanted := []int(nil)
	if in.Op == api.Call {
		x, _ := r.calledBy(in)
		if i >= len(x.Params) {
			return 0, false
		}
		return x.Params[i], true
	}
	if row, ok := r.rowOf(n, in.Op); ok && (row.args == anyNumber || i < row.args) {
		wanted = row.wanted
	}
	if len(wanted) == 0 {
		return 0, false
	}
	switch want := wanted[min(i, len(wanted)-1)]; want {
	case typ:
		return in.Type, true
	case from:
		return in.N, true
	default:
		return want, true
	}
}

func (r *rules) operands(n, b, i int, in api.Instr) {
	f := r.m.Funcs[n]
	for k, v := range in.Args {
		want, ok := r.wantedBy(n, in, k)
		if !ok {
			continue
		}
		tell := func(is bool, rule string, code api.Errno, order int) {
			r.tell(is, rule, code, api.Place{Func: n, Block: b, At: i}, 3, n, 5, b, i, k, order)
		}
		isReg, isConst, isGlobal := v.Kind == api.Reg, v.Kind == api.Const, v.Kind == api.Global
		tell(v.Kind < 1 || v.Kind > 5, "3.5 kind", api.ErrForm, 0)
		tell(v.N != 0 && !isReg && !isGlobal, "3.5 n", api.ErrForm, 0)
		tell(v.Bits != 0 && !isConst, "3.5 bits", api.ErrForm, 0)
		t, _ := typeByRules(f, v.N)
		tell(isReg && t == 0, "3.5 reg", api.ErrReg, 1)
		tell(isReg && t != want, "3.5 reg's type", api.ErrType, 2)
		tell(isConst && want == 65, "3.5 number for an address", api.ErrType, 2)
		tell(isConst && want >= 1 && want < 64 && v.Bits>>uint(want&63) != 0, "3.5 great number", api.ErrType, 2)
		tell(isGlobal && (v.N < 0 || v.N >= len(r.m.Vars)), "3.5 global", api.ErrName, 1)
		tell(isGlobal && want != 65, "3.5 global for a number", api.ErrType, 2)
		tell(v.Kind == api.Null && want != 65, "3.5 null for a number", api.ErrType, 2)
	}
}

// ways asks the phis, and whether what makes an operand stands ahead.
func (r *rules) ways(n int) {
	f := r.m.Funcs[n]
	reach := reachedWithout(f, -1)
	dominates := make([][]bool, len(f.Blocks))
	for a := range f.Blocks {
		without := reachedWithout(f, a)
		for b := range f.Blocks {
			dominates[a] = append(dominates[a], reach[a] && reach[b] && !without[b])
		}
	}
	eachByRules(f, func(b, i int, in api.Instr) {
		place := api.Place{Func: n, Block: b, At: i}
		if in.Op == api.Phi {
			r.phi(f, in, place)
		}
		for k, v := range in.Args {
			_, maker := typeByRules(f, v.N)
			if v.Kind != api.Reg || maker.Block == -1 {
				continue
			}
			ahead := dominates[maker.Block][b]
			if maker.Block == b {
				ahead = maker.At < i
			}
			asked, rule := reach[b], "3.7 ahead"
			if in.Op == api.Phi {
				if k >= len(in.To) || in.To[k] < 0 || in.To[k] >= len(f.Blocks) {
					continue
				}
				asked, rule = reach[b] && reach[in.To[k]], "3.7 ahead of a phi"
				ahead = dominates[maker.Block][in.To[k]]
			}
			r.tell(asked && !ahead, rule, api.ErrDom, place, 3, n, 7, b, i, k)
		}
	})
}

func (r *rules) phi(f api.Func, in api.Instr, place api.Place) {
	n, b, i := place.Func, place.Block, place.At
	r.tell(b == 0, "3.6 block 0", api.ErrPhi, place, 3, n, 6, b, i)
	for _, other := range f.Blocks[b].Code[:i] {
		r.tell(other.Op != api.Phi, "3.6 behind", api.ErrPhi, place, 3, n, 6, b, i)
	}
	var preds []int
	for p := range f.Blocks {
		if slices.Contains(nextOf(f, p), b) {
			preds = append(preds, p)
		}
	}
	r.tell(!slices.Equal(in.To, preds), "3.6 to", api.ErrPhi, place, 3, n, 6, b, i)
}

// nextOf lists the blocks that one goes on to, some perhaps twice.
func nextOf(f api.Func, b int) []int {
	code := f.Blocks[b].Code
	if len(code) == 0 || code[len(code)-1].Op != api.Br && code[len(code)-1].Op != api.Brif {
		return nil
	}
	var next []int
	for _, to := range code[len(code)-1].To {
		if to >= 0 && to < len(f.Blocks) {
			next = append(next, to)
		}
	}
	return next
}

// reachedWithout tells which blocks a way from block 0 comes to that doesn't go through one block.
func reachedWithout(f api.Func, without int) []bool {
	reached := make([]bool, len(f.Blocks))
	var visit func(b int)
	visit = func(b int) {
		if b == without || reached[b] {
			return
		}
		reached[b] = true
		for _, to := range nextOf(f, b) {
			visit(to)
		}
	}
	if len(f.Blocks) > 0 {
		visit(0)
	}
	return reached
}
