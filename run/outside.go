package run

import (
	"slices"

	"lathe/api"
	"lathe/mem"
)

// tell tells the outside of a call of an extern, whose type is t, and lets it reply; it answers the reply's number.
func (r *run) tell(extern, t int, values []api.Val) api.Val {
	r.endIf(slices.ContainsFunc(values, isPoison), api.Undef)
	reply := r.reply(len(r.events))
	r.events = append(r.events, api.Event{Extern: extern, Args: values, Vars: r.vars()})
	for _, w := range reply.Writes {
		// The numbers behind the globals' are those of Allocas' blocks, which the outside doesn't reach.
		if r.isGlobal(w.Var) {
			r.memory.Set(w.Var, w.At, w.Bits)
		}
	}
	return mem.Norm(t, api.Val{Kind: api.IsInt, Bits: reply.Ret})
}

// reply is the script's to the event of a number.
func (r *run) reply(event int) api.Reply {
	if event >= len(r.script) {
		return api.Reply{}
	}
	return r.script[event]
}

// vars are the bytes of all globals, as the outside sees them now.
func (r *run) vars() [][]api.Byte {
	var all [][]api.Byte
	for n := range r.module.Vars {
		bytes := r.memory.Bytes(n)
		for i, b := range bytes {
			if b.Kind == api.ByteAddr && b.Block >= 0 && !r.isGlobal(b.Block) {
				bytes[i] = api.Byte{}
			}
		}
		all = append(all, bytes)
	}
	return all
}

func isPoison(v api.Val) bool {
	return v.Kind == api.IsPoison
}
