package comb

import (
	"container/heap"

	"lathe/api"
	"lathe/graph"
	"lathe/ir"
)

// In a right function an instruction is turned once at most by each of rules 2 and 13 to 16, and by the others less often than there are instructions, since its operand stands further ahead each time. Only what comes of itself, which no right function has, would be turned for ever.
const mostTurns = 2 * api.MaxCode

// comber keeps which instructions to ask: those that changed, or whose operands' makers did, since they were asked. No rule applies to any other one, so the first that waits is asked first.
type comber struct {
	f      api.Func // a copy, whose instructions become others
	items  []item   // of each instruction, blocks in order
	makers map[int]int
	users  map[int]map[int]struct{}
	line   line
}

type item struct {
	in        *api.Instr
	reachable bool
	gone      bool
	waits     bool // in the line
	turns     int  // how often it was turned
}

func comberOf(f api.Func) *comber {
	w := &comber{f: ir.CopyFunc(f), makers: map[int]int{}, users: map[int]map[int]struct{}{}}
	reach := graph.Reach(f)
	for b, block := range w.f.Blocks {
		for i := range block.Code {
			w.add(item{in: &block.Code[i], reachable: reach[b]})
		}
	}
	return w
}

func (w *comber) add(it item) {
	n := len(w.items)
	w.items = append(w.items, it)
	if _, again := w.makers[it.in.Reg]; !again && ir.Result(*it.in) != api.Void {
		w.makers[it.in.Reg] = n
	}
	w.use(n)
	w.ask(n)
}

// use keeps of each operand that this instruction uses it.
func (w *comber) use(n int) {
	for _, v := range w.items[n].in.Args {
		if v.Kind != api.Reg {
			continue
		}
		if w.users[v.N] == nil {
			w.users[v.N] = map[int]struct{}{}
		}
		w.users[v.N][n] = struct{}{}
	}
}

// leave forgets what the instruction uses.
func (w *comber) leave(n int) {
	for _, v := range w.items[n].in.Args {
		if v.Kind == api.Reg {
			delete(w.users[v.N], n)
		}
	}
}

func (w *comber) ask(n int) {
	it := &w.items[n]
	if it.reachable && !it.waits && it.turns < mostTurns {
		it.waits = true
		heap.Push(&w.line, n)
	}
}

// first takes the first one out of the line.
func (w *comber) first() int {
	n := heap.Pop(&w.line).(int)
	w.items[n].waits = false
	return n
}

// comb does so with an instruction as the first rule that applies says.
func (w *comber) comb(n int) {
	it := &w.items[n]
	in, how := spot{*it.in, w.maker}.rule()
	switch how {
	case isOperand:
		w.leave(n)
		it.gone = true
		delete(w.makers, it.in.Reg)
		w.replace(it.in.Reg, in.Args[0])
	case turns:
		w.leave(n)
		*it.in = in
		it.turns++
		w.use(n)
		w.changed(n)
	}
}

func (w *comber) maker(reg int) api.Instr {
	n, ok := w.makers[reg]
	if !ok {
		return api.Instr{}
	}
	return *w.items[n].in
}

// replace lays the operand where the register is used.
func (w *comber) replace(reg int, by api.Value) {
	users := w.users[reg]
	delete(w.users, reg)
	for u := range users {
		args := w.items[u].in.Args
		for k, v := range args {
			if v.Kind == api.Reg && v.N == reg {
				args[k] = by
			}
		}
		w.use(u)
		w.changed(u)
	}
}

// changed has an instruction asked again, and those that ask what makes their operands.
func (w *comber) changed(n int) {
	w.ask(n)
	for u := range w.users[w.items[n].in.Reg] {
		w.ask(u)
	}
}

// rest is the function without what is gone.
func (w *comber) rest() api.Func {
	n := 0
	for b, block := range w.f.Blocks {
		var code []api.Instr
		for _, in := range block.Code {
			if !w.items[n].gone {
				code = append(code, in)
			}
			n++
		}
		w.f.Blocks[b].Code = code
	}
	return w.f
}
