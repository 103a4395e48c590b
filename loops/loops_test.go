package loops_test

import (
	"slices"
	"testing"

	"lathe/api"
	"lathe/loops"
)

func sameLoop(a, b api.Loop) bool {
	return a.Header == b.Header && a.Depth == b.Depth && slices.Equal(a.Blocks, b.Blocks) && slices.Equal(a.Latch, b.Latch) && slices.Equal(a.Exits, b.Exits)
}

func checkFind(t *testing.T, f api.Func, want ...api.Loop) {
	t.Helper()
	if got := loops.Find(f); !slices.EqualFunc(got, want, sameLoop) {
		t.Errorf("Find: %v, not %v", got, want)
	}
}

func checkAhead(t *testing.T, f api.Func, header, want int) {
	t.Helper()
	if got, ok := loops.Ahead(f, header); !ok || got != want {
		t.Errorf("Ahead of %d: %d, %v; not %d", header, got, ok, want)
	}
}

func checkNoneAhead(t *testing.T, f api.Func, headers ...int) {
	t.Helper()
	for _, h := range headers {
		if got, ok := loops.Ahead(f, h); ok || got != 0 {
			t.Errorf("Ahead of %d: %d, %v", h, got, ok)
		}
	}
}

// The chapter's examples, of Find and Ahead.
func TestExamples(t *testing.T) {
	loop := api.Loop{Header: 1, Blocks: []int{1, 2}, Latch: []int{2}, Exits: []int{3}, Depth: 1}
	f := goesTo([]int{1}, []int{2, 3}, []int{1}, nil)
	checkFind(t, f, loop)
	checkAhead(t, f, 1, 0)
	checkNoneAhead(t, f, 0, 2, 3)
	f = goesTo([]int{1, 3}, []int{2, 3}, []int{1}, nil)
	checkFind(t, f, loop)
	checkNoneAhead(t, f, 0, 1, 2, 3)
}

// P13.1: a block that goes on to itself; a header with two latches; loops side by side.
func TestFind(t *testing.T) {
	checkFind(t, goesTo([]int{1}, []int{1, 2}, nil),
		api.Loop{Header: 1, Blocks: []int{1}, Latch: []int{1}, Exits: []int{2}, Depth: 1})
	checkFind(t, goesTo([]int{1}, []int{2, 3}, []int{1, 4}, []int{1, 4}, nil),
		api.Loop{Header: 1, Blocks: []int{1, 2, 3}, Latch: []int{2, 3}, Exits: []int{4}, Depth: 1})
	checkFind(t, goesTo([]int{2}, nil, []int{2, 4}, []int{3, 1}, []int{5, 3}, []int{4}),
		api.Loop{Header: 2, Blocks: []int{2}, Latch: []int{2}, Exits: []int{4}, Depth: 1},
		api.Loop{Header: 3, Blocks: []int{3}, Latch: []int{3}, Exits: []int{1}, Depth: 1},
		api.Loop{Header: 4, Blocks: []int{4, 5}, Latch: []int{5}, Exits: []int{3}, Depth: 1})
	// A loop that nothing leaves.
	checkFind(t, goesTo([]int{1}, []int{2}, []int{1}),
		api.Loop{Header: 1, Blocks: []int{1, 2}, Latch: []int{2}, Depth: 1})
}

// P13.1: loops in loops, the inner header the greater number or the lesser one; a latch of two headers; blocks that aren't in the inner one, and an exit out of both.
func TestFindInner(t *testing.T) {
	checkFind(t, goesTo([]int{1}, []int{2}, []int{3}, []int{3, 4}, []int{2, 5}, []int{1, 6}, nil),
		api.Loop{Header: 1, Blocks: []int{1, 2, 3, 4, 5}, Latch: []int{5}, Exits: []int{6}, Depth: 1},
		api.Loop{Header: 2, Blocks: []int{2, 3, 4}, Latch: []int{4}, Exits: []int{5}, Depth: 2},
		api.Loop{Header: 3, Blocks: []int{3}, Latch: []int{3}, Exits: []int{4}, Depth: 3})
	checkFind(t, goesTo([]int{4}, []int{2}, []int{1, 3, 5}, []int{4, 5}, []int{1}, nil),
		api.Loop{Header: 1, Blocks: []int{1, 2}, Latch: []int{2}, Exits: []int{3, 5}, Depth: 2},
		api.Loop{Header: 4, Blocks: []int{1, 2, 3, 4}, Latch: []int{3}, Exits: []int{5}, Depth: 1})
	checkFind(t, goesTo([]int{1}, []int{2}, []int{2, 1, 3}, nil),
		api.Loop{Header: 1, Blocks: []int{1, 2}, Latch: []int{2}, Exits: []int{3}, Depth: 1},
		api.Loop{Header: 2, Blocks: []int{2}, Latch: []int{2}, Exits: []int{1, 3}, Depth: 2})
	// Two in one, and what is between them is in that one alone.
	checkFind(t, goesTo([]int{1}, []int{2}, []int{2, 3}, []int{4}, []int{4, 5}, []int{1}),
		api.Loop{Header: 1, Blocks: []int{1, 2, 3, 4, 5}, Latch: []int{5}, Depth: 1},
		api.Loop{Header: 2, Blocks: []int{2}, Latch: []int{2}, Exits: []int{3}, Depth: 2},
		api.Loop{Header: 4, Blocks: []int{4}, Latch: []int{4}, Exits: []int{5}, Depth: 2})
}

// P13.1: a round with two ways in has no header; where one block is come to by all ways, the round in the loop has none still.
func TestFindTwoWaysIn(t *testing.T) {
	checkFind(t, goesTo([]int{1, 2}, []int{2}, []int{1, 3}, nil))
	checkFind(t, goesTo([]int{1}, []int{2, 3}, []int{3}, []int{2, 1}, nil),
		api.Loop{Header: 1, Blocks: []int{1, 2, 3}, Latch: []int{3}, Depth: 1})
}

// P13.1: what isn't reachable is no latch, has none, and is in no loop.
func TestFindNotReachable(t *testing.T) {
	checkFind(t, goesTo([]int{1}, nil, []int{1}))
	checkFind(t, goesTo(nil, []int{2}, []int{1, 2}))
	checkFind(t, goesTo([]int{1}, []int{2}, []int{1}, []int{1, 2, 0}),
		api.Loop{Header: 1, Blocks: []int{1, 2}, Latch: []int{2}, Depth: 1})
}

// P13.1: any function: block 0 may be a header; ends may go on to no block; there may be no block.
func TestFindAny(t *testing.T) {
	checkFind(t, goesTo([]int{0}), api.Loop{Blocks: []int{0}, Latch: []int{0}, Depth: 1})
	checkFind(t, goesTo([]int{1, 2}, []int{0, -1, 9}, nil),
		api.Loop{Blocks: []int{0, 1}, Latch: []int{1}, Exits: []int{2}, Depth: 1})
	checkFind(t, goesTo([]int{1}, []int{1, 1, 2, 2}, []int{1, 0}),
		api.Loop{Blocks: []int{0, 1, 2}, Latch: []int{2}, Depth: 1},
		api.Loop{Header: 1, Blocks: []int{1, 2}, Latch: []int{1, 2}, Exits: []int{0}, Depth: 2})
	checkFind(t, api.Func{})
	checkFind(t, api.Func{Blocks: make([]api.Block, 3)})
}

// P13.1: the block ahead goes on to the header alone, be it by a Brif, or to no block as well.
func TestAhead(t *testing.T) {
	checkAhead(t, goesTo([]int{1, 1}, []int{1}), 1, 0)
	checkAhead(t, goesTo([]int{1, 9}, []int{1}), 1, 0)
	checkAhead(t, goesTo([]int{2}, nil, []int{3}, []int{3, 1}), 3, 2)
	checkNoneAhead(t, goesTo([]int{1, 2}, []int{1}, nil), 1)
	// Two outer predecessors, each of which goes on to the header alone.
	checkNoneAhead(t, goesTo([]int{1, 2}, []int{3}, []int{3}, []int{3}), 3)
	// An inner header: the outer one is ahead of it, unless it goes elsewhere too.
	f := goesTo([]int{1}, []int{2}, []int{2, 1})
	checkAhead(t, f, 1, 0)
	checkAhead(t, f, 2, 1)
	f = goesTo([]int{1}, []int{2, 3}, []int{2, 1}, nil)
	checkAhead(t, f, 1, 0)
	checkNoneAhead(t, f, 2)
}

// P13.1: an outer predecessor that isn't reachable counts, and is itself no block ahead.
func TestAheadNotReachable(t *testing.T) {
	checkNoneAhead(t, goesTo([]int{1}, []int{1}, []int{1}), 1)
	checkNoneAhead(t, goesTo([]int{0}, []int{0}), 0)
	checkNoneAhead(t, goesTo(nil, []int{2}, []int{2}), 1, 2)
}

// P13.1: a header without an outer predecessor, a block that is no header, and numbers of no block.
func TestAheadNone(t *testing.T) {
	checkNoneAhead(t, goesTo([]int{0}), 0)
	checkNoneAhead(t, goesTo([]int{1}, []int{2}, nil), 0, 1, 2)
	f := goesTo([]int{1}, []int{1})
	checkNoneAhead(t, f, 2)
	for _, no := range wilds {
		checkNoneAhead(t, f, no)
		checkNoneAhead(t, api.Func{}, no)
	}
}
