package graph_test

import (
	"slices"
	"testing"

	"lathe/api"
	"lathe/graph"
)

// P6.1: every call answers what the chapter's words tell, for all small functions and for many of any data; what is handed in stays.
func TestByWords(t *testing.T) {
	eachFunc(func(f api.Func) {
		before := copyOf(f)
		for _, b := range append([]int{len(f.Blocks)}, wilds...) {
			if got, want := graph.Succs(f, b), succsByWords(f, b); !slices.Equal(got, want) {
				t.Fatal("Succs", f, b, got, want)
			}
		}
		for b := range f.Blocks {
			if got, want := graph.Succs(f, b), succsByWords(f, b); !slices.Equal(got, want) {
				t.Fatal("Succs", f, b, got, want)
			}
		}
		checkStays(t, "Succs", f, before)
		if got, want := graph.Preds(f), predsByWords(f); !sameLists(got, want) {
			t.Fatal("Preds", f, got, want)
		}
		checkStays(t, "Preds", f, before)
		if got, want := graph.Reach(f), reachByWords(f); !slices.Equal(got, want) {
			t.Fatal("Reach", f, got, want)
		}
		checkStays(t, "Reach", f, before)
		if got, want := graph.Order(f), orderByWords(f); !slices.Equal(got, want) {
			t.Fatal("Order", f, got, want)
		}
		checkStays(t, "Order", f, before)
	})
}

// P6.2: Order has block 0 first and each reachable block once.
func TestOrderHasReachable(t *testing.T) {
	eachFunc(func(f api.Func) {
		order, reach := graph.Order(f), graph.Reach(f)
		if len(reach) != len(f.Blocks) || (len(order) > 0) != (len(f.Blocks) > 0) {
			t.Fatal("wrong lengths", f, order, reach)
		}
		if len(order) > 0 && order[0] != 0 {
			t.Fatal("block 0 isn't first", f, order)
		}
		times := make([]int, len(f.Blocks))
		for _, b := range order {
			times[b]++
		}
		for b, n := range times {
			if n > 1 || (n == 1) != reach[b] {
				t.Fatal("block", b, "is", n, "times in the order", f, order, reach)
			}
		}
	})
}

// P6.2: a block is a successor of another just if that is its predecessor.
func TestBothWays(t *testing.T) {
	eachFunc(func(f api.Func) {
		preds := graph.Preds(f)
		for a := range f.Blocks {
			succs := graph.Succs(f, a)
			for b := range f.Blocks {
				if slices.Contains(succs, b) != slices.Contains(preds[b], a) {
					t.Fatal("blocks", a, b, f, succs, preds[b])
				}
			}
			if !slices.IsSorted(preds[a]) || len(slices.Compact(slices.Clone(preds[a]))) != len(preds[a]) {
				t.Fatal("predecessors don't rise", f, preds[a])
			}
		}
	})
}

// P6.2: every reachable block but 0 has a predecessor that stands ahead of it in the order.
func TestPredecessorAhead(t *testing.T) {
	eachFunc(func(f api.Func) {
		order, preds := graph.Order(f), graph.Preds(f)
		for i, b := range order {
			isAhead := func(p int) bool { return slices.Contains(order[:i], p) }
			if b != 0 && !slices.ContainsFunc(preds[b], isAhead) {
				t.Fatal("block", b, f, order, preds[b])
			}
		}
	})
}

// P6.1: lists are new memory: what is done to one, in its spare room too, is done to no other, and not to the function.
func TestNewMemory(t *testing.T) {
	eachFunc(func(f api.Func) {
		before := copyOf(f)
		want := graph.Preds(f)
		for b := range f.Blocks {
			kept := graph.Succs(f, b)
			was := slices.Clone(kept)
			spoil(graph.Succs(f, b))
			if !slices.Equal(kept, was) {
				t.Fatal("two answers of Succs share memory", f)
			}
		}
		spoiled := graph.Preds(f)
		for b := range spoiled {
			spoil(spoiled[b])
			for other := b + 1; other < len(spoiled); other++ {
				if !slices.Equal(spoiled[other], want[other]) {
					t.Fatal("two lists of Preds share memory", f)
				}
			}
		}
		order, reach := graph.Order(f), graph.Reach(f)
		spoil(graph.Order(f))
		clear(graph.Reach(f))
		if !slices.Equal(order, graph.Order(f)) || !slices.Equal(reach, graph.Reach(f)) || !sameLists(want, graph.Preds(f)) {
			t.Fatal("two answers share memory", f)
		}
		checkStays(t, "what is done to an answer", f, before)
	})
}
