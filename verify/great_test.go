package verify_test

import (
	"slices"
	"strings"
	"testing"

	"lathe/api"
	"lathe/verify"
)

const many = 1 << 20

// P8.1: lists and texts that are far greater than those of a right module.
func TestGreatLists(t *testing.T) {
	check(t, api.Module{Vars: make([]api.Var, many)}, api.ErrLimit, at(-1, 0, 0))
	check(t, api.Module{Externs: []api.Extern{{Name: strings.Repeat("a", many), Params: make([]int, many)}}}, api.ErrLimit, at(-1, 0, 0))
	check(t, api.Module{Externs: []api.Extern{{Name: strings.Repeat("a", many) + "-"}}}, api.ErrName, at(-1, 0, 0))
	body := func(blocks ...[]api.Instr) api.Module {
		f := api.Func{Name: "f"}
		for _, code := range blocks {
			f.Blocks = append(f.Blocks, api.Block{Code: code})
		}
		return api.Module{Funcs: []api.Func{f}}
	}
	check(t, body(make([][]api.Instr, many)...), api.ErrLimit, at(0, 0, 0))
	check(t, body(make([]api.Instr, many)), api.ErrLimit, at(0, 0, 0))
	halt := api.Instr{Op: api.Halt, Reg: -1}
	ones, poisons := slices.Repeat([]int{1}, many), slices.Repeat([]api.Value{{Kind: api.Poison}}, many)
	phi := api.Instr{Op: api.Phi, Type: 8, Args: poisons, To: ones}
	br := api.Instr{Op: api.Br, Reg: -1, To: ones}
	check(t, body([]api.Instr{br}, []api.Instr{halt}), api.ErrForm, at(0, 0, 0))
	br.To = ones[:1]
	check(t, body([]api.Instr{br}, []api.Instr{phi, halt}), api.ErrPhi, at(0, 1, 0))
	call := api.Instr{Op: api.Call, Reg: -1, Args: poisons}
	check(t, body([]api.Instr{call, halt}), api.ErrArgs, at(0, 0, 0))
	poisons[many-1].N = 1
	check(t, body([]api.Instr{br}, []api.Instr{phi, halt}), api.ErrForm, at(0, 1, 0))
}

// web is right, and asks the most of what must stand ahead: each of the inner blocks goes on to all that it can, and each has the phis that a function has room for.
func web() api.Module {
	const last = api.MaxBlocks - 1
	f := api.Func{Name: "f", Ret: 8}
	phi := api.Instr{Op: api.Phi, Type: 8}
	for b := range last {
		f.Blocks = append(f.Blocks, api.Block{Code: []api.Instr{{Op: api.Brif, Reg: -1, Args: []api.Value{{Kind: api.Poison}}, To: []int{b + 1, last}}}})
		phi.Args, phi.To = append(phi.Args, api.Value{Kind: api.Reg}), append(phi.To, b)
	}
	first := api.Instr{Op: api.Freeze, Type: 8, Args: []api.Value{{Kind: api.Poison}}}
	f.Blocks[0].Code = slices.Insert(f.Blocks[0].Code, 0, first)
	var code []api.Instr
	for reg := 1; reg < api.MaxCode-api.MaxBlocks; reg++ {
		phi.Reg = reg
		code = append(code, phi)
	}
	end := api.Instr{Op: api.Ret, Reg: -1, Type: 8, Args: []api.Value{{Kind: api.Reg, N: 300}}}
	f.Blocks = append(f.Blocks, api.Block{Code: append(code, end)})
	m := api.Module{}
	for n := range api.MaxFuncs {
		f.Name = string(rune('a' + n))
		m.Funcs = append(m.Funcs, f)
	}
	return m
}

// P8.1: as many operands as there can be that must be made ahead.
func TestWeb(t *testing.T) {
	m := web()
	for range 20 {
		check(t, m, api.OK, api.Place{})
	}
	// All functions share the lists.
	phis := m.Funcs[0].Blocks[api.MaxBlocks-1].Code
	phis[0].Args[62].N = 334
	check(t, m, api.ErrDom, at(0, 63, 0))
}

// roomy lays each list of a module at the beginning of a greater one, and answers these greater ones' ends.
func roomy(m *api.Module) func() bool {
	var asked []func() bool
	m.Funcs[0].Params = room(m.Funcs[0].Params, -99, &asked)
	for b := range m.Funcs[0].Blocks {
		block := &m.Funcs[0].Blocks[b]
		for i := range block.Code {
			block.Code[i].Args = room(block.Code[i].Args, api.Value{Kind: -99}, &asked)
			block.Code[i].To = room(block.Code[i].To, -99, &asked)
		}
	}
	m.Vars = room(m.Vars, api.Var{Size: -99}, &asked)
	m.Externs[0].Params = room(m.Externs[0].Params, -99, &asked)
	return func() bool {
		return !slices.ContainsFunc(asked, func(stays func() bool) bool { return !stays() })
	}
}

func room[T comparable](list []T, end T, asked *[]func() bool) []T {
	n := len(list)
	list = append(slices.Clone(list), end, end)
	*asked = append(*asked, func() bool { return list[n] == end && list[n+1] == end })
	return list[:n]
}

// P8.1: what is handed in stays, spare room too.
func TestSpareRoomStays(t *testing.T) {
	m := read(t, "global g 8;extern x(i8) i8;func f(i8) i8;b0:;%1 = call x(%0);brif 1, b1, b2;b1:;br b2;b2:;%2 = phi i8 b0 %1, b1 3;ret i8 %2;end")
	stays := roomy(&m)
	check(t, m, api.OK, api.Place{})
	if types := verify.Types(m.Funcs[0]); types[0] != 8 || types[1] != 8 || types[3] != 0 {
		t.Error(types[:4])
	}
	if !stays() {
		t.Error("spare room is changed")
	}
}
