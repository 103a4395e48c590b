package loops

import (
	"slices"

	"lathe/api"
	"lathe/dom"
	"lathe/graph"
)

// flow is how the blocks of a function follow each other, and which dominate which.
type flow struct {
	preds [][]int
	order []int
	// The numbers of all blocks that a block dominates follow each other, its own first; so one look tells whether it dominates another.
	number []int // -1 of a block that isn't reachable
	under  []int // how many blocks a block dominates
}

func flowOf(f api.Func) flow {
	size := len(f.Blocks)
	w := flow{graph.Preds(f), graph.Order(f), make([]int, size), make([]int, size)}
	for b := range size {
		w.number[b] = -1
	}
	idom := dom.Idom(f)
	// A nearest dominator stands ahead of its blocks in the order: from the last one on they are counted ahead of it, and from the first one on numbered behind it.
	for _, b := range slices.Backward(w.order) {
		w.under[b]++
		if above := idom[b]; above != -1 {
			w.under[above] += w.under[b]
		}
	}
	next := make([]int, size) // of each block the number of what is numbered next under it
	for _, b := range w.order {
		w.number[b] = 0
		if above := idom[b]; above != -1 {
			w.number[b] = next[above]
			next[above] += w.under[b]
		}
		next[b] = w.number[b] + 1
	}
	return w
}

func (w flow) isReached(b int) bool {
	return w.number[b] != -1
}

func (w flow) dominates(a, b int) bool {
	return w.number[a] <= w.number[b] && w.number[b] < w.number[a]+w.under[a]
}

// split tells a block's latches from its outer predecessors.
func (w flow) split(h int) (latches, outer []int) {
	for _, p := range w.preds[h] {
		if w.dominates(h, p) {
			latches = append(latches, p)
		} else {
			outer = append(outer, p)
		}
	}
	return latches, outer
}

// headers are the blocks with a latch, rising.
func (w flow) headers() []int {
	var headers []int
	for b := range len(w.preds) {
		if latches, _ := w.split(b); len(latches) > 0 {
			headers = append(headers, b)
		}
	}
	return headers
}

// ahead answers the block ahead of a header of the function whose flow this is.
func (w flow) ahead(f api.Func, header int) (int, bool) {
	if header < 0 || header >= len(w.preds) {
		return 0, false
	}
	latches, outer := w.split(header)
	if len(latches) == 0 || len(outer) != 1 {
		return 0, false
	}
	p := outer[0]
	if !w.isReached(p) || len(graph.Succs(f, p)) != 1 {
		return 0, false
	}
	return p, true
}
