package run_test

import (
	"slices"

	"lathe/api"
	"lathe/eval"
	"lathe/mem"
	"lathe/verify"
)

// The chapter's words once more: a machine without calls of itself, that does a step a round; its blocks are lists of all their bytes, and what dies is made poison at once.

type block struct {
	bytes    []api.Byte
	isAlive  bool
	byAlloca bool
}

// level is a call under way: where it stands, where its block was come from, and what it keeps.
type level struct {
	fn, block, at, from int
	held                map[int]api.Val
	waiting             map[int]api.Val // what phis that were begun are to hold
	made                []int
}

type machine struct {
	m      api.Module
	script []api.Reply
	blocks []block
	levels []*level
	out    api.Outcome
	isOver bool
	isLost bool // whether a call answered poison in the place of the address of a block that was no more
}

// runByWords answers what the chapter says of Run.
func runByWords(m api.Module, fn int, args []api.Val, script []api.Reply, fuel int) api.Outcome {
	if code, _ := verify.Check(m); code != api.OK || fn < 0 || fn >= len(m.Funcs) {
		return api.Outcome{Status: 4}
	}
	return machineOf(m, fn, args, script, fuel).out
}

// machineOf is the machine behind the run of a function of a right module.
func machineOf(m api.Module, fn int, args []api.Val, script []api.Reply, fuel int) *machine {
	w := &machine{m: m, script: script}
	for _, v := range m.Vars {
		w.blocks = append(w.blocks, block{bytes: slices.Repeat([]api.Byte{{Kind: api.ByteInt}}, v.Size), isAlive: true})
	}
	var values []api.Val
	for i := range m.Funcs[fn].Params {
		v := api.Val{}
		if i < len(args) && (args[i].Kind != api.IsAddr || args[i].Block >= -1 && args[i].Block < len(m.Vars)) {
			v = args[i]
		}
		values = append(values, v)
	}
	w.enter(fn, values)
	for !w.isOver {
		if w.out.Steps == max(fuel, 0) {
			w.end(2)
			break
		}
		w.out.Steps++
		w.do()
	}
	return w
}

func (w *machine) end(status int) {
	w.isOver = true
	w.out.Status = status
}

func (w *machine) enter(fn int, values []api.Val) {
	if len(w.levels) == 32 {
		w.end(3)
		return
	}
	l := &level{fn: fn, from: -1, held: map[int]api.Val{}, waiting: map[int]api.Val{}}
	for i, t := range w.m.Funcs[fn].Params {
		l.held[i] = mem.Norm(t, values[i])
	}
	w.levels = append(w.levels, l)
}

func (w *machine) top() *level {
	return w.levels[len(w.levels)-1]
}

// do does the step of the instruction at which the last call stands.
func (w *machine) do() {
	l := w.top()
	code := w.m.Funcs[l.fn].Blocks[l.block].Code
	in := code[l.at]
	l.at++
	var v []api.Val
	for _, o := range in.Args {
		v = append(v, w.operand(l, o))
	}
	switch in.Op {
	case api.Phi:
		for i, from := range in.To {
			if from == l.from {
				l.waiting[in.Reg] = v[i]
			}
		}
		if code[l.at].Op != api.Phi {
			for reg, held := range l.waiting {
				l.held[reg] = held
			}
			l.waiting = map[int]api.Val{}
		}
	case api.Alloca:
		l.made = append(l.made, len(w.blocks))
		l.held[in.Reg] = api.Val{Kind: api.IsAddr, Block: len(w.blocks)}
		w.blocks = append(w.blocks, block{bytes: make([]api.Byte, in.N), isAlive: true, byAlloca: true})
	case api.Load:
		if bytes := w.reach(in.Type, v[0]); bytes != nil {
			l.held[in.Reg] = mem.Unpack(in.Type, bytes)
		}
	case api.Store:
		if bytes := w.reach(in.Type, v[1]); bytes != nil {
			copy(bytes, mem.Pack(in.Type, v[0]))
		}
	case api.Call:
		if in.N >= 0 {
			w.enter(in.N, v)
		} else {
			w.ask(in, v)
		}
	case api.Br, api.Brif:
		w.goOn(in, v)
	case api.Ret:
		w.leave(append(v, api.Val{})[0])
	case api.Halt:
		w.end(1)
	default:
		made, end := eval.Eval(in, v)
		l.held[in.Reg] = made
		if end != 0 {
			w.end(map[int]int{2: 1, 4: 5}[end])
		}
	}
}

func (w *machine) operand(l *level, o api.Value) api.Val {
	return map[int]api.Val{
		1: l.held[o.N],
		2: {Kind: 1, Bits: o.Bits},
		3: {},
		4: {Kind: 2, Block: -1, Off: 0},
		5: {Kind: 2, Block: o.N, Off: 0},
	}[o.Kind]
}

// reach is where a value of the type lies; else the run ends.
func (w *machine) reach(t int, at api.Val) []api.Byte {
	n := len(mem.Pack(t, api.Val{}))
	if at.Kind == api.IsAny {
		w.end(5)
		return nil
	}
	if at.Kind == api.IsAddr && at.Block >= 0 && at.Block < len(w.blocks) && w.blocks[at.Block].isAlive {
		bytes := w.blocks[at.Block].bytes
		if at.Off >= 0 && at.Off < 100 && int(at.Off)+n <= len(bytes) {
			return bytes[at.Off : int(at.Off)+n]
		}
	}
	w.end(1)
	return nil
}

func (w *machine) ask(in api.Instr, v []api.Val) {
	if slices.Contains(v, api.Val{}) {
		w.end(1)
		return
	}
	w.out.Events = append(w.out.Events, api.Event{Extern: -1 - in.N, Args: v, Vars: w.shown()})
	reply := append(slices.Clone(w.script), make([]api.Reply, len(w.out.Events))...)[len(w.out.Events)-1]
	for _, write := range reply.Writes {
		if write.Var >= 0 && write.Var < len(w.m.Vars) && write.At >= 0 && write.At < w.m.Vars[write.Var].Size {
			w.blocks[write.Var].bytes[write.At] = api.Byte{Kind: api.ByteInt, Bits: write.Bits}
		}
	}
	if in.Reg != -1 {
		w.top().held[in.Reg] = mem.Norm(in.Type, api.Val{Kind: api.IsInt, Bits: reply.Ret})
	}
}

// shown are the globals as the outside sees them.
func (w *machine) shown() [][]api.Byte {
	var all [][]api.Byte
	for n := range w.m.Vars {
		list := slices.Clone(w.blocks[n].bytes)
		for i, b := range list {
			if b.Kind == api.ByteAddr && b.Block >= 0 && w.blocks[b.Block].byAlloca {
				list[i] = api.Byte{}
			}
		}
		all = append(all, list)
	}
	return all
}

func (w *machine) goOn(in api.Instr, v []api.Val) {
	to := in.To[0]
	if in.Op == api.Brif {
		switch v[0] {
		case api.Val{}:
			w.end(1)
		case api.Val{Kind: api.IsAny}:
			w.end(5)
		case api.Val{Kind: api.IsInt}:
			to = in.To[1]
		}
	}
	l := w.top()
	l.from, l.block, l.at = l.block, to, 0
}

// leave is what a Ret does: the call is over.
func (w *machine) leave(ret api.Val) {
	for _, n := range w.top().made {
		w.blocks[n].isAlive = false
		for _, b := range w.blocks {
			for i, one := range b.bytes {
				if one.Kind == api.ByteAddr && one.Block == n {
					b.bytes[i] = api.Byte{}
				}
			}
		}
	}
	if ret.Kind == api.IsAddr && ret.Block >= 0 && !w.blocks[ret.Block].isAlive {
		ret, w.isLost = api.Val{}, true
	}
	w.levels = w.levels[:len(w.levels)-1]
	if len(w.levels) == 0 {
		w.out.Ret, w.out.Vars = ret, w.shown()
		w.end(0)
		return
	}
	l := w.top()
	if reg := w.m.Funcs[l.fn].Blocks[l.block].Code[l.at-1].Reg; reg != -1 {
		l.held[reg] = ret
	}
}
