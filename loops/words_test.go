package loops_test

import (
	"slices"

	"lathe/api"
	"lathe/dom"
	"lathe/graph"
	"lathe/ir"
)

// The chapter's words once more, each as it is told, with no eye for how long it takes.

// words is what the chapters below say of a function.
type words struct {
	succs, preds [][]int
	reach        []bool
	idom         []int
}

func wordsOf(f api.Func) words {
	w := words{preds: graph.Preds(f), reach: graph.Reach(f), idom: dom.Idom(f)}
	for b := range f.Blocks {
		w.succs = append(w.succs, graph.Succs(f, b))
	}
	return w
}

// blocksWith lists the blocks, rising, of which something holds.
func (w words) blocksWith(holds func(b int) bool) []int {
	var list []int
	for b := range w.succs {
		if holds(b) {
			list = append(list, b)
		}
	}
	return list
}

// dominates asks chapter 7's P7.2.
func (w words) dominates(a, b int) bool {
	if !w.reach[a] || !w.reach[b] {
		return false
	}
	for b != a && b != -1 {
		b = w.idom[b]
	}
	return b == a
}

func (w words) isLatch(h, p int) bool {
	return has(w.preds[h], p) && w.dominates(h, p)
}

func (w words) latches(h int) []int {
	return w.blocksWith(func(p int) bool { return w.isLatch(h, p) })
}

func (w words) outer(h int) []int {
	return w.blocksWith(func(p int) bool { return has(w.preds[h], p) && !w.isLatch(h, p) })
}

func (w words) headers() []int {
	return w.blocksWith(func(h int) bool { return len(w.latches(h)) > 0 })
}

// loop finds of which blocks a way leads to a latch without going through h: from further and further off, till there is no further one.
func (w words) loop(h int) []int {
	leads := make([]bool, len(w.succs))
	for _, p := range w.latches(h) {
		leads[p] = p != h
	}
	for changed := true; changed; {
		changed = false
		for b, succs := range w.succs {
			if b != h && !leads[b] && slices.ContainsFunc(succs, func(s int) bool { return leads[s] }) {
				leads[b], changed = true, true
			}
		}
	}
	return w.blocksWith(func(b int) bool { return b == h || w.reach[b] && leads[b] })
}

func (w words) exits(loop []int) []int {
	return w.blocksWith(func(b int) bool {
		comesFrom := func(p int) bool { return has(w.succs[p], b) }
		return !has(loop, b) && slices.ContainsFunc(loop, comesFrom)
	})
}

func (w words) find() []api.Loop {
	var list []api.Loop
	for _, h := range w.headers() {
		loop := w.loop(h)
		list = append(list, api.Loop{Header: h, Blocks: loop, Latch: w.latches(h), Exits: w.exits(loop)})
	}
	for i, l := range list {
		for _, other := range list {
			if has(other.Blocks, l.Header) {
				list[i].Depth++
			}
		}
	}
	return list
}

func (w words) ahead(header int) (int, bool) {
	if !has(w.headers(), header) {
		return 0, false
	}
	outer := w.outer(header)
	if len(outer) != 1 || !w.reach[outer[0]] {
		return 0, false
	}
	for _, s := range w.succs[outer[0]] {
		if s != header {
			return 0, false
		}
	}
	return outer[0], true
}

func has(list []int, b int) bool {
	return slices.Contains(list, b)
}

func simpleByWords(f api.Func) api.Func {
	f = ir.CopyFunc(f)
	for _, h := range wordsOf(f).headers() {
		w := wordsOf(f)
		if _, ok := w.ahead(h); !ok && len(w.outer(h)) > 0 && len(f.Blocks) < 64 {
			f = withAhead(f, h, w.outer(h))
		}
	}
	return f
}

// withAhead lays every block of the function anew, and the one that is put ahead behind them.
func withAhead(f api.Func, h int, outer []int) api.Func {
	n := len(f.Blocks)
	blocks := make([]api.Block, n+1)
	for b, block := range f.Blocks {
		blocks[b].Code = slices.Clone(block.Code)
		last := len(block.Code) - 1
		if has(outer, b) {
			var to []int
			for _, number := range block.Code[last].To {
				if number == h {
					number = n
				}
				to = append(to, number)
			}
			blocks[b].Code[last].To = to
		}
	}
	f.Blocks = blocks
	for i, phi := range blocks[h].Code {
		if phi.Op != 25 {
			break
		}
		from := func(wanted bool) (args []api.Value, to []int) {
			for k, p := range phi.To {
				if has(outer, p) == wanted {
					args, to = append(args, phi.Args[k]), append(to, p)
				}
			}
			return args, to
		}
		args, to := from(true)
		one := args[0]
		if len(args) >= 2 {
			one = api.Value{Kind: 1, N: ir.Fresh(f)}
			blocks[n].Code = append(blocks[n].Code, api.Instr{Op: 25, Reg: one.N, Type: phi.Type, Args: args, To: to})
		}
		args, to = from(false)
		blocks[h].Code[i].Args, blocks[h].Code[i].To = append(args, one), append(to, n)
	}
	blocks[n].Code = append(blocks[n].Code, api.Instr{Op: 31, Reg: -1, To: []int{h}})
	return f
}
