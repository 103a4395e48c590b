package graph_test

import (
	"slices"
	"testing"

	"lathe/api"
	"lathe/graph"
)

func checkSuccs(t *testing.T, f api.Func, b int, want ...int) {
	t.Helper()
	if got := graph.Succs(f, b); !slices.Equal(got, want) {
		t.Errorf("Succs of %d: %v, not %v", b, got, want)
	}
}

// The chapter's examples.
func TestExamples(t *testing.T) {
	f := example()
	checkSuccs(t, f, 0, 2, 1)
	checkSuccs(t, f, 1, 3)
	checkSuccs(t, f, 3)
	checkSuccs(t, f, 4, 3)
	if got := graph.Preds(f); !sameLists(got, [][]int{{}, {0}, {0}, {1, 2, 4}, {}}) {
		t.Error("Preds:", got)
	}
	if got := graph.Reach(f); !slices.Equal(got, []bool{true, true, true, true, false}) {
		t.Error("Reach:", got)
	}
	if got := graph.Order(f); !slices.Equal(got, []int{0, 1, 2, 3}) {
		t.Error("Order:", got)
	}
	checkSuccs(t, function(brif(1, 1), ret()), 0, 1)
	checkSuccs(t, function(br(9)), 0)
}

// P6.1: only the last instruction is an end, only Br and Brif go on, and only to blocks that are there.
func TestEnds(t *testing.T) {
	two := func(code ...api.Instr) api.Func { return function(block(code...), ret()) }
	for op := -2; op < 40; op++ {
		f := two(ending(op, 1, 0))
		if op == api.Br || op == api.Brif {
			checkSuccs(t, f, 0, 1, 0)
		} else {
			checkSuccs(t, f, 0)
		}
	}
	checkSuccs(t, two(ending(api.Br, 1), ending(api.Add)), 0)
	checkSuccs(t, two(ending(api.Br, 1), ending(api.Ret)), 0)
	checkSuccs(t, two(ending(api.Br, 1), ending(api.Br, 0)), 0, 0)
	checkSuccs(t, two(ending(api.Halt), ending(api.Br, 1)), 0, 1)
	checkSuccs(t, two(ending(api.Br)), 0)
	checkSuccs(t, two(), 0)
	checkSuccs(t, two(ending(api.Brif, -1, 2)), 0)
	checkSuccs(t, two(ending(api.Br, 2, 1, -1, 0, 1, 0, 2)), 0, 1, 0)
}

// P6.1: a block that there isn't, and a function without blocks.
func TestNone(t *testing.T) {
	for _, b := range append([]int{5}, wilds...) {
		if b < 0 || b > 4 {
			checkSuccs(t, example(), b)
		}
		checkSuccs(t, api.Func{}, b)
	}
	if f := (api.Func{}); len(graph.Preds(f)) != 0 || len(graph.Reach(f)) != 0 || len(graph.Order(f)) != 0 {
		t.Error("a function without blocks has some")
	}
}

// P6.1: the order of successors tells the order; a block that goes on to itself, or back, is visited once.
func TestOrder(t *testing.T) {
	for _, c := range []struct {
		f    api.Func
		want []int
	}{
		{function(ret(), br(0)), []int{0}},
		{function(br(0)), []int{0}},
		{function(brif(1, 2), ret(), ret()), []int{0, 2, 1}},
		{function(brif(2, 1), ret(), ret()), []int{0, 1, 2}},
		{function(brif(1, 2), br(2), ret()), []int{0, 1, 2}},
		{function(brif(1, 2), ret(), br(1)), []int{0, 2, 1}},
		{function(br(2), ret(), brif(2, 3), brif(1, 0)), []int{0, 2, 3, 1}},
		{function(brif(1, 2), br(2), br(1)), []int{0, 1, 2}},
	} {
		if got := graph.Order(c.f); !slices.Equal(got, c.want) {
			t.Errorf("Order of %v: %v, not %v", c.f.Blocks, got, c.want)
		}
	}
}

// P6.1: every function: one whose way goes through very many blocks, and a block that goes on to very many.
func TestGreat(t *testing.T) {
	const most = 1 << 20
	long := make([]api.Block, most)
	for b := range long {
		long[b] = br(b + 1)
	}
	f := function(long...)
	order, preds := graph.Order(f), graph.Preds(f)
	if len(order) != most {
		t.Fatal("the long way has", len(order))
	}
	for i, b := range order {
		if b != i || i > 0 && !slices.Equal(preds[i], []int{i - 1}) {
			t.Fatal("the long way at", i, b, preds[i])
		}
	}
	if slices.Contains(graph.Reach(f), false) {
		t.Error("the long way isn't gone")
	}
	wide := make([]int, 0, most)
	for i := range most {
		wide = append(wide, i/2)
	}
	f = function(make([]api.Block, most/2)...)
	f.Blocks[0] = block(ending(api.Br, wide...))
	if succs := graph.Succs(f, 0); len(succs) != most/2 || !slices.IsSorted(succs) {
		t.Error("the wide block has", len(succs))
	}
}
