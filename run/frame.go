package run

import (
	"slices"

	"lathe/api"
	"lathe/ir"
	"lathe/mem"
)

// frame is a call of a function that is under way.
type frame struct {
	*run
	f         api.Func
	registers map[int]api.Val
	made      []int // the blocks that its Allocas made, in order
}

// call goes through a function from its beginning to its end, and tells what it answers.
func (r *run) call(fn int, values []api.Val) api.Val {
	r.endIf(r.calls == api.MaxDepth, api.Deep)
	r.calls++
	c := &frame{run: r, f: r.module.Funcs[fn], registers: map[int]api.Val{}}
	for reg, t := range c.f.Params {
		c.registers[reg] = mem.Norm(t, values[reg])
	}
	ret := c.through()
	r.calls--
	return c.over(ret)
}

// through begins the instructions, one behind the other, till a Ret, and tells its operand.
func (c *frame) through() api.Val {
	from, b := -1, 0
	for {
		code := c.f.Blocks[b].Code
		last := len(code) - 1
		for _, in := range code[c.phis(code, from):last] {
			c.step()
			c.hold(in, c.result(in))
		}
		c.step()
		end := code[last]
		if end.Op == api.Ret {
			return c.answer(end)
		}
		from, b = b, c.next(end)
	}
}

// phis begins those at the front of a block that was come to from another one, and tells how many they are.
func (c *frame) phis(code []api.Instr, from int) int {
	var values []api.Val
	for _, in := range code {
		if in.Op != api.Phi {
			break
		}
		c.step()
		values = append(values, c.value(in.Args[slices.Index(in.To, from)]))
	}
	// None may hold its own ahead of this: it may be an operand of another one.
	for i, v := range values {
		c.hold(code[i], v)
	}
	return len(values)
}

// next is the block that a Br or Brif goes on to; a Halt goes on to none.
func (c *frame) next(end api.Instr) int {
	c.endIf(end.Op == api.Halt, api.Undef)
	if end.Op == api.Br {
		return end.To[0]
	}
	v := c.value(end.Args[0])
	c.endIf(v.Kind == api.IsPoison, api.Undef)
	c.endIf(v.Kind == api.IsAny, api.Loose)
	if v.Bits == 1 {
		return end.To[0]
	}
	return end.To[1]
}

func (c *frame) answer(ret api.Instr) api.Val {
	if len(ret.Args) == 0 {
		return api.Val{}
	}
	return c.value(ret.Args[0])
}

// over frees what the call's Allocas made, and tells what is left of what it answers.
func (c *frame) over(ret api.Val) api.Val {
	for _, block := range c.made {
		c.memory.Free(block)
	}
	if ret.Kind == api.IsAddr && ret.Block >= 0 && c.memory.Size(ret.Block) < 0 {
		return api.Val{}
	}
	return ret
}

// hold lays a value into the instruction's register, if it has one.
func (c *frame) hold(in api.Instr, v api.Val) {
	if ir.Result(in) != api.Void {
		c.registers[in.Reg] = v
	}
}

func (c *frame) values(args []api.Value) []api.Val {
	values := make([]api.Val, len(args))
	for i, v := range args {
		values[i] = c.value(v)
	}
	return values
}

// value is what an operand is.
func (c *frame) value(v api.Value) api.Val {
	switch v.Kind {
	case api.Reg:
		return c.registers[v.N]
	case api.Const:
		return api.Val{Kind: api.IsInt, Bits: v.Bits}
	case api.Null:
		return api.Val{Kind: api.IsAddr, Block: -1}
	case api.Global:
		return api.Val{Kind: api.IsAddr, Block: v.N}
	}
	return api.Val{}
}
