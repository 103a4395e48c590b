package samples

import (
	"lathe/api"
	"lathe/refine"
	"lathe/run"
)

// Input is what a run of a module is given.
type Input struct {
	Fn     int
	Args   []api.Val
	Script []api.Reply
	Fuel   int
}

// Tally counts, by their Status, outcomes that others were held against.
type Tally [api.Loose + 1]int

// Input: some function, with arguments, replies and fuel; most arguments are of its Params' types.
func (r *Maker) Input(m api.Module) Input {
	in := Input{Fn: r.Below(len(m.Funcs)), Fuel: OneOf(r, 300, 300, 300, r.Below(40))}
	for _, t := range m.Funcs[in.Fn].Params {
		in.Args = append(in.Args, r.arg(m, t))
	}
	for range r.Below(30) {
		reply := api.Reply{Ret: OneOf(r, r.Bits(), uint64(r.Below(4)))}
		for range r.Below(3) {
			reply.Writes = append(reply.Writes, api.Write{Var: r.Below(len(m.Vars)), At: r.Below(16), Bits: byte(r.Bits())})
		}
		in.Script = append(in.Script, reply)
	}
	return in
}

func (r *Maker) arg(m api.Module, t int) api.Val {
	switch {
	case r.In(3):
		return api.Val{}
	case r.In(6):
		return api.Val{Kind: api.IsAny}
	case t == api.Ptr:
		return api.Val{Kind: api.IsAddr, Block: OneOf(r, -1, r.Below(len(m.Vars)), r.Below(len(m.Vars)), r.Below(len(m.Vars))), Off: int64(OneOf(r, 0, 0, 0, 4))}
	}
	return api.Val{Kind: api.IsInt, Bits: OneOf(r, r.Bits(), uint64(r.Below(5)), 1<<r.Below(64))}
}

// Worse looks for an input of the first module whose outcome the second module's doesn't refine, with the same fuel, with much, and with little; false, if none of so many is one.
func (r *Maker) Worse(was, is api.Module, times int, tally *Tally) (Input, bool) {
	for range times {
		in := r.Input(was)
		out := run.Run(was, in.Fn, in.Args, in.Script, in.Fuel)
		if out.Status < 0 || out.Status >= len(tally) {
			return in, true
		}
		tally[out.Status]++
		for _, fuel := range []int{in.Fuel, 8*in.Fuel + 800, r.Below(in.Fuel + 1)} {
			if !refine.Refines(out, run.Run(is, in.Fn, in.Args, in.Script, fuel)) {
				return in, true
			}
		}
	}
	return Input{}, false
}
