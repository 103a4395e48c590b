package run

import (
	"lathe/api"
	"lathe/eval"
)

// How chapter 10's Eval ends, where it has no value.
const (
	evalUndef = 2
	evalLoose = 4
)

// result is what an instruction that is neither a Phi nor an end makes, once it is done; poison, if it makes nothing.
func (c *frame) result(in api.Instr) api.Val {
	values := c.values(in.Args)
	switch in.Op {
	case api.Alloca:
		return c.alloca(in.N)
	case api.Load:
		return c.load(in.Type, values[0])
	case api.Store:
		c.store(in.Type, values[0], values[1])
		return api.Val{}
	case api.Call:
		if in.N < 0 {
			return c.tell(-1-in.N, in.Type, values)
		}
		return c.call(in.N, values)
	}
	v, end := eval.Eval(in, values)
	c.endIf(end == evalUndef, api.Undef)
	c.endIf(end == evalLoose, api.Loose)
	return v
}

func (c *frame) alloca(size int) api.Val {
	block := c.memory.Alloc(size)
	c.made = append(c.made, block)
	return api.Val{Kind: api.IsAddr, Block: block}
}

func (r *run) load(t int, at api.Val) api.Val {
	r.endIf(at.Kind == api.IsAny, api.Loose)
	v, ok := r.memory.Load(t, at)
	r.endIf(!ok, api.Undef)
	return v
}

func (r *run) store(t int, v, at api.Val) {
	r.endIf(at.Kind == api.IsAny, api.Loose)
	r.endIf(!r.memory.Store(t, v, at), api.Undef)
}
