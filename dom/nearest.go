package dom

import (
	"slices"
)

// forest holds a walk's numbers while they are gone through from the last; those that were gone through hang on their parents.
type forest struct {
	semi  []int // the least number from which a way comes that goes through greater ones alone
	above []int // what it hangs on, or, where the way up was shortened, what that hung on; -1 of a root
	best  []int // which has the least semi, from it up to, but not with, what is above
}

func forestOf(size int) forest {
	t := forest{make([]int, size), make([]int, size), make([]int, size)}
	for n := range size {
		t.semi[n], t.above[n], t.best[n] = n, -1, n
	}
	return t
}

// nearest answers, of each of a walk's numbers but 0, which one is its nearest dominator.
// This is Lengauer's and Tarjan's way: the shorter ones take, for some functions, a time that grows with the square of the blocks.
func nearest(w walk, preds [][]int) []int {
	size := len(w.blocks)
	t := forestOf(size)
	least := make([]int, size)     // of each number that which has the least semi, from it up to, but not with, its own semi
	waiting := make([][]int, size) // of each number those whose semi it is
	for n := size - 1; n > 0; n-- {
		for _, p := range preds[w.blocks[n]] {
			if from := w.number[p]; from != -1 {
				t.semi[n] = min(t.semi[n], t.semi[t.lookUp(from)])
			}
		}
		parent := w.parent[n]
		waiting[t.semi[n]] = append(waiting[t.semi[n]], n)
		t.above[n] = parent
		// What is between these and the parent hangs by now, and the parent doesn't yet: it is their root.
		for _, m := range waiting[parent] {
			least[m] = t.lookUp(m)
		}
		waiting[parent] = nil
	}
	return settle(t.semi, least)
}

// lookUp answers which has the least semi, from n up to, but not with, the root; n, if that is one itself.
func (t forest) lookUp(n int) int {
	var way []int
	for m := n; t.above[m] != -1 && t.above[t.above[m]] != -1; m = t.above[m] {
		way = append(way, m)
	}
	for _, m := range slices.Backward(way) {
		up := t.above[m]
		if t.semi[t.best[up]] < t.semi[t.best[m]] {
			t.best[m] = t.best[up]
		}
		t.above[m] = t.above[up]
	}
	return t.best[n]
}

// settle tells the nearest dominators, rising: a number's is its semi, if nothing between the two is come to from further up; else it's the same as that of what is come to from furthest up.
func settle(semi, least []int) []int {
	near := make([]int, len(semi))
	for n := 1; n < len(semi); n++ {
		near[n] = semi[n]
		if between := least[n]; semi[between] < semi[n] {
			near[n] = near[between]
		}
	}
	return near
}
