package loops

import (
	"lathe/api"
	"lathe/ir"
)

// putAhead puts a block ahead of a header, between it and its outer predecessors. The function's lists are nobody else's, and changed.
func putAhead(f api.Func, header int, outer []int) api.Func {
	n := len(f.Blocks)
	f.Blocks = append(f.Blocks, api.Block{})
	isOuter := map[int]struct{}{}
	for _, p := range outer {
		isOuter[p] = struct{}{}
		code := f.Blocks[p].Code
		turn(code[len(code)-1].To, header, n)
	}
	code := f.Blocks[header].Code
	for i := 0; i < len(code) && code[i].Op == api.Phi; i++ {
		came, stays := part(code[i], isOuter)
		if len(came.To) > 1 {
			came.Reg = ir.Fresh(f)
			f.Blocks[n].Code = append(f.Blocks[n].Code, came)
			came.Args = []api.Value{{Kind: api.Reg, N: came.Reg}}
		}
		if len(came.To) > 0 {
			stays.Args, stays.To = append(stays.Args, came.Args[0]), append(stays.To, n)
		}
		code[i] = stays
	}
	f.Blocks[n].Code = append(f.Blocks[n].Code, api.Instr{Op: api.Br, Reg: -1, To: []int{header}})
	return f
}

// turn makes of each number in a To that is a block's the number of another one.
func turn(to []int, from, n int) {
	for i := range to {
		if to[i] == from {
			to[i] = n
		}
	}
}

// part makes two Phis of one: of what came from outer predecessors, without a register, and of what else it had.
func part(phi api.Instr, isOuter map[int]struct{}) (came, stays api.Instr) {
	came = api.Instr{Op: api.Phi, Reg: -1, Type: phi.Type}
	stays = phi
	stays.Args, stays.To = nil, nil
	// In a right module there are as many of both.
	for i := range min(len(phi.Args), len(phi.To)) {
		to := &stays
		if _, is := isOuter[phi.To[i]]; is {
			to = &came
		}
		to.Args, to.To = append(to.Args, phi.Args[i]), append(to.To, phi.To[i])
	}
	return came, stays
}
