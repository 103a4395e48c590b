package dom

import (
	"lathe/api"
	"lathe/graph"
)

// walk goes over the reachable blocks from block 0, depth first; the number of a block is its place in it.
type walk struct {
	blocks []int // of each number its block
	parent []int // of each number the one that it was met from; -1 of 0
	number []int // of each block its number; -1 of those that aren't reachable
}

// step is a block that is to be met, from the number of another.
type step struct {
	block int
	from  int
}

func walkOf(f api.Func) walk {
	w := walk{number: make([]int, len(f.Blocks))}
	for b := range len(f.Blocks) {
		w.number[b] = -1
	}
	// A list of steps in the place of calls: a way may be as long as there are blocks, and so many calls would not fit.
	var ahead []step
	if len(f.Blocks) > 0 {
		ahead = append(ahead, step{0, -1})
	}
	for len(ahead) > 0 {
		last := ahead[len(ahead)-1]
		ahead = ahead[:len(ahead)-1]
		if w.number[last.block] != -1 {
			continue
		}
		n := len(w.blocks)
		w.number[last.block] = n
		w.blocks = append(w.blocks, last.block)
		w.parent = append(w.parent, last.from)
		for _, s := range graph.Succs(f, last.block) {
			ahead = append(ahead, step{s, n})
		}
	}
	return w
}
