package loops_test

import (
	"slices"
	"testing"

	"lathe/api"
	"lathe/loops"
)

// from lists the numbers from one to another one.
func from(first, last int) []int {
	var list []int
	for n := first; n <= last; n++ {
		list = append(list, n)
	}
	return list
}

// P13.1: every function: one loop that goes round through very many blocks.
func TestLongLoop(t *testing.T) {
	const last = 1<<18 - 1
	ways := [][]int{{1}}
	for b := 1; b < last; b++ {
		ways = append(ways, []int{b + 1})
	}
	ways[last-1] = []int{1, last}
	f := goesTo(append(ways, nil)...)
	checkFind(t, f, api.Loop{Header: 1, Blocks: from(1, last-1), Latch: []int{last - 1}, Exits: []int{last}, Depth: 1})
	checkAhead(t, f, 1, 0)
	if got := loops.Simple(f); len(got.Blocks) != last+1 {
		t.Error("Simple has blocks", len(got.Blocks))
	}
}

// P13.1: very many loops, each with one in it, and the latches outward behind the innermost header.
func TestDeepLoops(t *testing.T) {
	const deep = 1500
	ways, want := [][]int{{1}}, []api.Loop{}
	for h := 1; h <= deep; h++ {
		ways = append(ways, []int{h + 1})
		latch := 2*deep + 1 - h
		want = append(want, api.Loop{Header: h, Blocks: from(h, latch), Latch: []int{latch}, Exits: []int{latch + 1}, Depth: h})
	}
	for b := deep + 1; b <= 2*deep; b++ {
		ways = append(ways, []int{b + 1, 2*deep + 1 - b})
	}
	f := goesTo(append(ways, nil)...)
	checkFind(t, f, want...)
	checkAhead(t, f, deep, deep-1)
}

// P13.1: very many ways back: each block goes back to all ahead of it, and out of all loops.
func TestManyLatches(t *testing.T) {
	const deep = 1200
	ways, want := [][]int{{1}}, []api.Loop{}
	for h := 1; h <= deep; h++ {
		ways = append(ways, append(from(1, h+1), deep+1))
		want = append(want, api.Loop{Header: h, Blocks: from(h, deep), Latch: from(h, deep), Exits: append(from(1, h-1), deep+1), Depth: h})
	}
	f := goesTo(append(ways, nil)...)
	checkFind(t, f, want...)
	checkAhead(t, f, 1, 0)
	checkNoneAhead(t, f, 2, deep)
}

// P13.1: a nest whose loops all leave for the same blocks, each of which counts once.
func TestManyExits(t *testing.T) {
	const deep, out = 400, 400
	ways := [][]int{{1}}
	for h := 1; h <= deep; h++ {
		ways = append(ways, append([]int{h + 1, h}, from(deep+2, deep+1+out)...))
	}
	ways = append(ways, from(1, deep))
	f := goesTo(append(ways, make([][]int, out)...)...)
	all := loops.Find(f)
	if len(all) != deep {
		t.Fatal(len(all), "loops")
	}
	for i, l := range all {
		h := i + 1
		if l.Header != h || l.Depth != h || !slices.Equal(l.Blocks, from(h, deep+1)) || !slices.Equal(l.Latch, []int{h, deep + 1}) || !slices.Equal(l.Exits, append(from(1, h-1), from(deep+2, deep+1+out)...)) {
			t.Fatal(l)
		}
	}
}
