package dom_test

import (
	"slices"
	"testing"

	"lathe/api"
	"lathe/dom"
)

func checkIdom(t *testing.T, f api.Func, want ...int) {
	t.Helper()
	if got := dom.Idom(f); !slices.Equal(got, want) {
		t.Errorf("Idom: %v, not %v", got, want)
	}
}

func checkTree(t *testing.T, f api.Func, want ...[]int) {
	t.Helper()
	if got := dom.Tree(f); !sameLists(got, want) {
		t.Errorf("Tree: %v, not %v", got, want)
	}
}

func checkFrontier(t *testing.T, f api.Func, want ...[]int) {
	t.Helper()
	if got := dom.Frontier(f); !sameLists(got, want) {
		t.Errorf("Frontier: %v, not %v", got, want)
	}
}

// The chapter's examples.
func TestExamples(t *testing.T) {
	f := example()
	checkIdom(t, f, -1, 0, 0, 0, 2, 0, -1)
	checkFrontier(t, f, nil, []int{3}, []int{3, 5}, []int{1, 5}, []int{5}, nil, nil)
	checkTree(t, f, []int{1, 2, 3, 5}, nil, []int{4}, nil, nil, nil, nil)
}

// P7.1: block 0 has no nearest dominator, also where ways come back to it, and its frontier is then itself.
func TestBlockZero(t *testing.T) {
	checkIdom(t, goesTo(nil), -1)
	checkTree(t, goesTo(nil), nil)
	checkFrontier(t, goesTo(nil), nil)
	checkIdom(t, goesTo([]int{0}), -1)
	checkFrontier(t, goesTo([]int{0}), []int{0})
	back := goesTo([]int{1}, []int{2}, []int{0, 1})
	checkIdom(t, back, -1, 0, 1)
	checkTree(t, back, []int{1}, []int{2}, nil)
	checkFrontier(t, back, []int{0}, []int{0, 1}, []int{0, 1})
}

// P7.1: a block that goes on to itself, and two that go on to each other with two ways in.
func TestRounds(t *testing.T) {
	itself := goesTo([]int{1}, []int{1, 2}, nil)
	checkIdom(t, itself, -1, 0, 1)
	checkFrontier(t, itself, nil, []int{1}, nil)
	both := goesTo([]int{1, 2}, []int{2}, []int{1, 3}, nil)
	checkIdom(t, both, -1, 0, 0, 2)
	checkTree(t, both, []int{1, 2}, []int{}, []int{3}, nil)
	checkFrontier(t, both, nil, []int{2}, []int{1}, nil)
}

// P7.1: what isn't reachable dominates nothing, not itself either, is dominated by nothing, and counts for no reachable block.
func TestNotReachable(t *testing.T) {
	f := goesTo([]int{1}, nil, []int{1, 3}, []int{2, 3, 0})
	checkIdom(t, f, -1, 0, -1, -1)
	checkTree(t, f, []int{1}, nil, nil, nil)
	checkFrontier(t, f, nil, nil, nil, nil)
	for a := range f.Blocks {
		for b := range f.Blocks {
			if got, want := dom.Dominates(f, a, b), b < 2 && a <= b; got != want {
				t.Error("Dominates", a, b, got)
			}
		}
	}
}

// P7.1: a block that there isn't, and a function without blocks.
func TestNone(t *testing.T) {
	f := example()
	for _, no := range append([]int{len(f.Blocks)}, wilds...) {
		if dom.Dominates(f, no, no) || dom.Dominates(f, 0, no) || dom.Dominates(f, no, 0) || dom.Dominates(f, no, 5) || dom.Dominates(f, no, 6) {
			t.Error("there is no block", no)
		}
		if dom.Dominates(api.Func{}, no, no) {
			t.Error("there is no block at all")
		}
	}
	if dom.Dominates(api.Func{}, 0, 0) {
		t.Error("there is no block 0")
	}
	checkIdom(t, api.Func{})
	checkTree(t, api.Func{})
	checkFrontier(t, api.Func{})
}
