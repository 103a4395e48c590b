package dom_test

import (
	"lathe/api"
	"lathe/graph"
)

// The chapter's words once more, each as it is told, with no eye for how long it takes.

// reachWithout tells which blocks some way from block 0 comes to that doesn't go through a.
func reachWithout(f api.Func, a int) []bool {
	reach := make([]bool, len(f.Blocks))
	ahead := []int{0}
	for len(ahead) > 0 {
		b := ahead[0]
		ahead = ahead[1:]
		if b != a && b < len(reach) && !reach[b] {
			reach[b] = true
			ahead = append(ahead, graph.Succs(f, b)...)
		}
	}
	return reach
}

// dominance tells of each a, and then of each b, whether a dominates b.
func dominance(f api.Func) [][]bool {
	reach := reachWithout(f, -1)
	var all [][]bool
	for a := range f.Blocks {
		without := reachWithout(f, a)
		row := make([]bool, len(f.Blocks))
		for b := range f.Blocks {
			row[b] = reach[a] && reach[b] && (a == b || !without[b])
		}
		all = append(all, row)
	}
	return all
}

// isNearest: a dominates b strictly, and so does every other strict dominator of b dominate a.
func isNearest(dominates [][]bool, a, b int) bool {
	if a == b || !dominates[a][b] {
		return false
	}
	for other := range dominates {
		if other != a && other != b && dominates[other][b] && !dominates[other][a] {
			return false
		}
	}
	return true
}

func idomByWords(dominates [][]bool) []int {
	idom := make([]int, len(dominates))
	for b := range idom {
		idom[b] = -1
		for a := range dominates {
			if isNearest(dominates, a, b) {
				idom[b] = a
			}
		}
	}
	return idom
}

func treeByWords(dominates [][]bool) [][]int {
	tree := make([][]int, len(dominates))
	for a := range tree {
		for b := range dominates {
			if isNearest(dominates, a, b) {
				tree[a] = append(tree[a], b)
			}
		}
	}
	return tree
}

func frontierByWords(f api.Func, dominates [][]bool) [][]int {
	preds := graph.Preds(f)
	frontier := make([][]int, len(dominates))
	for a := range frontier {
		for b := range dominates {
			met := false
			for _, p := range preds[b] {
				met = met || dominates[a][p]
			}
			if met && (a == b || !dominates[a][b]) {
				frontier[a] = append(frontier[a], b)
			}
		}
	}
	return frontier
}
