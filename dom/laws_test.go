package dom_test

import (
	"math/rand"
	"slices"
	"testing"

	"lathe/api"
	"lathe/dom"
	"lathe/graph"
)

// checkLists holds the calls that answer lists against the chapter's words.
func checkLists(t *testing.T, f api.Func, dominates [][]bool) {
	t.Helper()
	if got, want := dom.Idom(f), idomByWords(dominates); !slices.Equal(got, want) {
		t.Fatal("Idom", f, got, want)
	}
	if got, want := dom.Tree(f), treeByWords(dominates); !sameLists(got, want) {
		t.Fatal("Tree", f, got, want)
	}
	if got, want := dom.Frontier(f), frontierByWords(f, dominates); !sameLists(got, want) {
		t.Fatal("Frontier", f, got, want)
	}
}

// P7.1: every call answers what the chapter's words tell, and what is handed in stays.
func TestByWords(t *testing.T) {
	eachFunc(func(f api.Func) {
		dominates := dominance(f)
		checkStays(t, f, func() { checkLists(t, f, dominates) })
		checkStays(t, f, func() {
			for a := range dominates {
				for b, want := range dominates[a] {
					if dom.Dominates(f, a, b) != want {
						t.Fatal("Dominates", f, a, b, !want)
					}
				}
			}
		})
	})
}

// P7.1: all ways in which four blocks may follow each other, and functions that are greater than a right one.
func TestListsByWords(t *testing.T) {
	check := func(f api.Func) { checkLists(t, f, dominance(f)) }
	eachOfSize(4, check)
	r := rand.New(rand.NewSource(71))
	for range 5000 {
		check(sparse(r, 1+r.Intn(24)))
	}
	for range 10 {
		check(sparse(r, 200))
		check(wild(r, 200))
	}
}

// P7.2: Dominates is an order of the reachable blocks.
func TestOrder(t *testing.T) {
	eachFunc(func(f api.Func) {
		if len(f.Blocks) > 14 {
			return
		}
		reach := graph.Reach(f)
		for a := range f.Blocks {
			if dom.Dominates(f, a, a) != reach[a] {
				t.Fatal("block", a, "and itself", f)
			}
			for b := range f.Blocks {
				if a == b || !dom.Dominates(f, a, b) {
					continue
				}
				if dom.Dominates(f, b, a) {
					t.Fatal("blocks", a, b, "dominate each other", f)
				}
				for c := range f.Blocks {
					if dom.Dominates(f, b, c) && !dom.Dominates(f, a, c) {
						t.Fatal("blocks", a, b, c, f)
					}
				}
			}
		}
	})
}

// P7.2: Dominates is to be had by going from nearest dominator to nearest dominator.
func TestUpTheTree(t *testing.T) {
	eachFunc(func(f api.Func) {
		idom, reach := dom.Idom(f), graph.Reach(f)
		for b := range f.Blocks {
			above := map[int]int{}
			for a := b; reach[b] && a != -1; a = idom[a] {
				above[a]++
			}
			for a := range f.Blocks {
				if dom.Dominates(f, a, b) != (above[a] == 1) {
					t.Fatal("blocks", a, b, f, idom)
				}
			}
		}
	})
}

// P7.2: the nearest dominator stands ahead of the block in chapter 6's order.
func TestNearestAhead(t *testing.T) {
	eachFunc(func(f api.Func) {
		idom, order := dom.Idom(f), graph.Order(f)
		for i, b := range order {
			if (b == 0) != (idom[b] == -1) || b != 0 && !slices.Contains(order[:i], idom[b]) {
				t.Fatal("block", b, f, idom, order)
			}
		}
	})
}

// leaves are the blocks at which some way from a first leaves what a dominates strictly.
func leaves(f api.Func, strictly []bool, a int) []int {
	met := make([]bool, len(f.Blocks))
	var left []int
	ahead := graph.Succs(f, a)
	for len(ahead) > 0 {
		b := ahead[0]
		ahead = ahead[1:]
		if met[b] {
			continue
		}
		met[b] = true
		if strictly[b] {
			ahead = append(ahead, graph.Succs(f, b)...)
		} else {
			left = append(left, b)
		}
	}
	slices.Sort(left)
	return left
}

// P7.3: a block is in the frontier of a just if some way from a first leaves, at that block, what a dominates strictly.
func TestLeaves(t *testing.T) {
	eachFunc(func(f api.Func) {
		frontier, reach := dom.Frontier(f), graph.Reach(f)
		for a := range f.Blocks {
			strictly := make([]bool, len(f.Blocks))
			for b := range f.Blocks {
				strictly[b] = a != b && dom.Dominates(f, a, b)
			}
			if reach[a] && !slices.Equal(frontier[a], leaves(f, strictly, a)) || !reach[a] && len(frontier[a]) > 0 {
				t.Fatal("the frontier of", a, f, frontier[a])
			}
		}
	})
}

// spoil overwrites a list, its spare room too.
func spoil(list []int) {
	list = list[:cap(list)]
	for i := range list {
		list[i] = -99
	}
}

// checkApart: what is done to one list of an answer, in its spare room too, is done to no other one, nor to another answer.
func checkApart(t *testing.T, f api.Func, call func(f api.Func) [][]int) {
	t.Helper()
	kept, spoiled := call(f), call(f)
	want := make([][]int, len(kept))
	for b := range kept {
		want[b] = slices.Clone(kept[b])
	}
	for b := range spoiled {
		spoil(spoiled[b])
		for other := b + 1; other < len(spoiled); other++ {
			if !slices.Equal(spoiled[other], want[other]) {
				t.Fatal("two lists share memory", f)
			}
		}
	}
	if !sameLists(kept, want) || !sameLists(call(f), want) {
		t.Fatal("two answers share memory", f)
	}
}

// P7.1: lists are new memory.
func TestNewMemory(t *testing.T) {
	eachFunc(func(f api.Func) {
		checkStays(t, f, func() {
			idom := dom.Idom(f)
			want := slices.Clone(idom)
			spoil(dom.Idom(f))
			if !slices.Equal(idom, want) || !slices.Equal(dom.Idom(f), want) {
				t.Fatal("two answers of Idom share memory", f)
			}
			checkApart(t, f, dom.Tree)
			checkApart(t, f, dom.Frontier)
		})
	})
}
