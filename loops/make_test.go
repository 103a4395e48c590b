package loops_test

import (
	"math"
	"math/rand"
	"slices"
	"strings"
	"testing"

	"lathe/api"
	"lathe/dom"
	"lathe/graph"
	"lathe/ir"
	"lathe/parse"
	"lathe/verify"
)

// goesTo is a function whose blocks go on to those that are told.
func goesTo(lists ...[]int) api.Func {
	f := api.Func{Name: "f"}
	for _, to := range lists {
		f.Blocks = append(f.Blocks, api.Block{Code: []api.Instr{{Op: api.Brif, Reg: -1, To: to}}})
	}
	return f
}

// eachOfSize shows the functions of so many blocks, one for each way in which blocks may follow each other.
func eachOfSize(blocks int, show func(f api.Func)) {
	for set := range 1 << (blocks * blocks) {
		lists := make([][]int, blocks)
		for bit := range blocks * blocks {
			if set>>bit&1 == 1 {
				lists[bit/blocks] = append(lists[bit/blocks], bit%blocks)
			}
		}
		show(goesTo(lists...))
	}
}

// maker makes functions; seeded, the same ones in every run.
type maker struct{ *rand.Rand }

func seeded(n int64) maker {
	return maker{rand.New(rand.NewSource(n))}
}

func oneOf[T any](r maker, all ...T) T {
	return all[r.Intn(len(all))]
}

// ways tells where each of so many blocks goes on to: mostly to the one behind it, and then often back, so that many loops lie in each other; never to block 0.
func (r maker) ways(blocks int) [][]int {
	lists := make([][]int, blocks)
	for b := range lists {
		if b == blocks-1 && r.Intn(4) > 0 {
			break
		}
		behind, back, anywhere := min(b+1, blocks-1), 1+r.Intn(max(b, 1)), 1+r.Intn(blocks-1)
		switch r.Intn(24) {
		case 0, 1, 2, 3, 4, 5:
			lists[b] = []int{behind}
		case 6, 7, 8, 9, 10, 11, 12, 13, 14, 15:
			lists[b] = []int{back, behind}
		case 16, 17:
			lists[b] = []int{behind, back}
		case 18, 19:
			lists[b] = []int{behind, anywhere}
		case 20, 21:
			lists[b] = []int{anywhere, behind}
		case 22:
			lists[b] = []int{back}
		}
	}
	return lists
}

var wilds = []int{math.MinInt, -1 << 32, -2, -1, 0, 64, 65, 1 << 32, math.MaxInt}

// wild has blocks of any code, whose ends may be none, or go on to block 0, or name what is no block; and Phis of any data.
func (r maker) wild(blocks int) api.Func {
	f := goesTo(r.ways(blocks)...)
	for b := range f.Blocks {
		code := f.Blocks[b].Code
		switch r.Intn(12) {
		case 0:
			code[0].Op = r.Intn(38) - 1
		case 1:
			code[0].To = append(code[0].To, oneOf(r, wilds...), r.Intn(blocks))
		case 2:
			code = append(code, api.Instr{Op: api.Br, Reg: r.Intn(9), To: []int{r.Intn(blocks)}})
		case 3:
			code = code[:r.Intn(2)]
		}
		for range r.Intn(3) {
			phi := api.Instr{Op: api.Phi, Reg: r.Intn(9), Type: oneOf(r, 8, api.Ptr, oneOf(r, wilds...)), Args: make([]api.Value, r.Intn(4))}
			for range r.Intn(4) {
				phi.To = append(phi.To, r.Intn(blocks))
			}
			code = slices.Insert(code, 0, phi)
		}
		f.Blocks[b].Code = code
	}
	return f
}

// eachFunc shows functions small and great, right and of any data, the same ones in every run.
func eachFunc(show func(f api.Func)) {
	for blocks := range 4 {
		eachOfSize(blocks, show)
	}
	r := seeded(13)
	for range 1500 {
		show(goesTo(r.ways(2 + r.Intn(14))...))
		show(r.wild(2 + r.Intn(14)))
	}
	for range 5 {
		show(goesTo(r.ways(64)...))
		show(r.wild(70))
	}
}

// asks is what a call of the extern has as its N that is asked which way to go: so runs go round, and mostly come to an end.
const asks = -2

// module is right; its one function has loops, and Phis in most blocks that others go on to.
func (r maker) module(blocks int) api.Module {
	f := goesTo(r.ways(blocks)...)
	f.Params, f.Ret = []int{8, 1, api.Ptr}, 8
	preds, names := graph.Preds(f), r.names(len(f.Params))
	for b := range f.Blocks {
		var code []api.Instr
		for range r.Intn(4) {
			if b > 0 {
				code = append(code, api.Instr{Op: api.Phi, Type: oneOf(r, 8, 8, 8, 1, api.Ptr), To: slices.Clone(preds[b]), Args: make([]api.Value, len(preds[b]))})
			}
		}
		for range r.Intn(5) {
			code = append(code, r.instr())
		}
		if len(graph.Succs(f, b)) == 2 && r.Intn(6) > 0 {
			code = append(code, api.Instr{Op: api.Call, N: asks, Type: 1})
		}
		for i, in := range code {
			code[i].Reg = -1
			if ir.Result(in) != api.Void {
				code[i].Reg, names = names[0], names[1:]
			}
		}
		f.Blocks[b].Code = append(code, r.end(f, b))
	}
	r.operands(f)
	return api.Module{
		Vars:    []api.Var{{Name: "g", Size: 1}, {Name: "h", Size: 8}},
		Externs: []api.Extern{{Name: "x", Params: []int{8}, Ret: 8}, {Name: "y", Ret: 1}},
		Funcs:   []api.Func{f},
	}
}

// names are registers that may be made, each once; some lower ones stay free.
func (r maker) names(least int) []int {
	names := r.Perm(900)
	for i := range names {
		names[i] += least
	}
	names[r.Intn(9)] = api.MaxReg
	return names
}

func (r maker) instr() api.Instr {
	one, two := make([]api.Value, 1), make([]api.Value, 2)
	return oneOf(r,
		api.Instr{Op: oneOf(r, api.Add, api.Sub, api.Mul), Type: 8, Flags: oneOf(r, 0, 0, 0, 0, 0, 0, 0, 0, api.Nsw, api.Nuw), Args: two},
		api.Instr{Op: oneOf(r, api.Xor, api.Udiv), Type: 8, Args: two},
		api.Instr{Op: oneOf(r, api.Eq, api.Ne, api.Ult, api.Slt), Type: 8, Args: two},
		api.Instr{Op: api.Select, Type: oneOf(r, 8, 1, api.Ptr), Args: make([]api.Value, 3)},
		api.Instr{Op: api.Freeze, Type: oneOf(r, 8, 1), Args: one},
		api.Instr{Op: api.Load, Type: oneOf(r, 8, 8, 8, 8, api.Ptr), Args: one},
		api.Instr{Op: api.Store, Type: oneOf(r, 8, 8, 8, 8, 8, api.Ptr), Args: two},
		api.Instr{Op: api.Call, N: -1, Type: 8, Args: one},
	)
}

// end goes on to where a block does.
func (r maker) end(f api.Func, b int) api.Instr {
	to := graph.Succs(f, b)
	switch {
	case len(to) == 2:
		return api.Instr{Op: api.Brif, Reg: -1, Args: make([]api.Value, 1), To: to}
	case len(to) == 1 && r.Intn(4) == 0:
		return api.Instr{Op: api.Brif, Reg: -1, Args: make([]api.Value, 1), To: []int{to[0], to[0]}}
	case len(to) == 1:
		return api.Instr{Op: api.Br, Reg: -1, To: to}
	case r.Intn(20) == 0:
		return api.Instr{Op: api.Halt, Reg: -1}
	}
	return api.Instr{Op: api.Ret, Reg: -1, Type: 8, Args: make([]api.Value, 1)}
}

// operands gives each one, a register mostly, of those that stand ahead.
func (r maker) operands(f api.Func) {
	idom := dom.Idom(f)
	for b, block := range f.Blocks {
		for i, in := range block.Code {
			for k := range in.Args {
				at := api.Place{Block: b, At: i}
				if in.Op == api.Phi {
					at = api.Place{Block: in.To[k], At: math.MaxInt}
				}
				want := wanted(in, k)
				in.Args[k] = r.operand(want, in.Op, registers(f, idom, want, at))
				if in.Op == api.Brif && i > 0 && block.Code[i-1].N == asks {
					in.Args[k] = api.Value{Kind: api.Reg, N: block.Code[i-1].Reg}
				}
			}
		}
	}
}

// wanted is the type of an instruction's operand.
func wanted(in api.Instr, k int) int {
	switch {
	case in.Op == api.Select && k == 0 || in.Op == api.Brif:
		return 1
	case in.Op == api.Load || in.Op == api.Store && k == 1:
		return api.Ptr
	case in.Op == api.Call:
		return 8
	}
	return in.Type
}

// registers lists those of a type that stand ahead of a place.
func registers(f api.Func, idom []int, want int, at api.Place) []int {
	list := slices.DeleteFunc([]int{0, 1, 2}, func(reg int) bool { return f.Params[reg] != want })
	for b := at.Block; b != -1; b = idom[b] {
		for i, in := range f.Blocks[b].Code {
			if ir.Result(in) == want && (b != at.Block || i < at.At) {
				list = append(list, in.Reg)
			}
		}
	}
	return list
}

func (r maker) operand(want, op int, registers []int) api.Value {
	isSafe := op == api.Udiv || op == api.Load || op == api.Store
	if len(registers) > 0 && r.Intn(5) > 0 && !(isSafe && r.Intn(4) > 0) {
		return api.Value{Kind: api.Reg, N: oneOf(r, registers...)}
	}
	switch {
	case r.Intn(200) == 0:
		return api.Value{Kind: api.Poison}
	case want == api.Ptr && r.Intn(40) == 0:
		return api.Value{Kind: api.Null}
	case want == api.Ptr:
		return api.Value{Kind: api.Global, N: 1}
	case want == 1:
		return api.Value{Kind: api.Const, Bits: uint64(r.Intn(2))}
	}
	return api.Value{Kind: api.Const, Bits: uint64(oneOf(r, 1, 2, 3, r.Intn(256)))}
}

// read reads a program, whose lines are separated by semicolons, and which is right.
func read(t *testing.T, text string) api.Module {
	t.Helper()
	m, fault := parse.Parse(strings.ReplaceAll(text, ";", "\n"))
	if code, place := verify.Check(m); fault != (api.Fault{}) || code != api.OK {
		t.Fatalf("%q: %v, %v at %v", text, fault, code, place)
	}
	return m
}
