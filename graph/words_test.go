package graph_test

import (
	"slices"

	"lathe/api"
)

// The chapter's words once more, each as it is told, with no eye for how long it takes.

func succsByWords(f api.Func, b int) []int {
	if b < 0 || b >= len(f.Blocks) || len(f.Blocks[b].Code) == 0 {
		return nil
	}
	end := f.Blocks[b].Code[len(f.Blocks[b].Code)-1]
	if end.Op != 31 && end.Op != 32 {
		return nil
	}
	var succs []int
	for i, to := range end.To {
		if to >= 0 && to < len(f.Blocks) && slices.Index(end.To, to) == i {
			succs = append(succs, to)
		}
	}
	return succs
}

func predsByWords(f api.Func) [][]int {
	var preds [][]int
	for b := range f.Blocks {
		var list []int
		for p := range f.Blocks {
			if slices.Contains(succsByWords(f, p), b) {
				list = append(list, p)
			}
		}
		preds = append(preds, list)
	}
	return preds
}

// reachByWords goes over all blocks till no further one is reachable.
func reachByWords(f api.Func) []bool {
	reach := make([]bool, len(f.Blocks))
	if len(reach) > 0 {
		reach[0] = true
	}
	for changed := true; changed; {
		changed = false
		for b := range f.Blocks {
			for _, s := range succsByWords(f, b) {
				if reach[b] && !reach[s] {
					reach[s], changed = true, true
				}
			}
		}
	}
	return reach
}

// orderByWords visits by calls of itself.
func orderByWords(f api.Func) []int {
	var order []int
	marked := make([]bool, len(f.Blocks))
	var visit func(b int)
	visit = func(b int) {
		marked[b] = true
		for _, s := range succsByWords(f, b) {
			if !marked[s] {
				visit(s)
			}
		}
		order = append([]int{b}, order...)
	}
	if len(f.Blocks) > 0 {
		visit(0)
	}
	return order
}
