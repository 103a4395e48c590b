package dom_test

import (
	"slices"
	"testing"

	"lathe/dom"
)

const most = 1 << 18

// great is a function of very many blocks, and what is known of each of them.
type great struct {
	name     string
	to       func(b int) []int
	idom     func(b int) int
	frontier func(b int) []int // nil, if it is too much to tell
}

func greats() []great {
	return []great{
		{"a way", behind, ahead, none},
		{"a way, and from each block back to the first", func(b int) []int { return append(behind(b), 0) }, ahead, just(0)},
		{"a way, and from each block on to the last", orLast, aheadButLast, inner(just(most - 1))},
		{"a way there and back, with two ends to come in by", thereAndBack, just0, butFirst(thereAndBack)},
		{"half a way, and from its first and its last to all others", halfAWay, aheadInHalf, nil},
		{"from the first to all, and from each to the one behind it", fromFirst, just0, butFirst(behind)},
	}
}

func ahead(b int) int   { return b - 1 }
func just0(int) int     { return 0 }
func none(int) []int    { return nil }
func isLast(b int) bool { return b == most-1 }

func just(b int) func(int) []int {
	return func(int) []int { return []int{b} }
}

func behind(b int) []int {
	if isLast(b) {
		return nil
	}
	return []int{b + 1}
}

// butFirst has nothing for block 0, and inner nothing for the last one either.
func butFirst(list func(int) []int) func(int) []int {
	return func(b int) []int {
		if b == 0 {
			return nil
		}
		return list(b)
	}
}

func inner(list func(int) []int) func(int) []int {
	return butFirst(func(b int) []int {
		if isLast(b) {
			return nil
		}
		return list(b)
	})
}

func orLast(b int) []int {
	if isLast(b) {
		return nil
	}
	return []int{b + 1, most - 1}
}

func aheadButLast(b int) int {
	if isLast(b) {
		return 0
	}
	return b - 1
}

func thereAndBack(b int) []int {
	if b == 0 {
		return []int{1, most - 1}
	}
	return append([]int{max(b-1, 1)}, behind(b)...)
}

func halfAWay(b int) []int {
	switch {
	case b == 0 || b == most/2-1:
		return append([]int{1}, from(most/2)...)
	case b < most/2:
		return []int{b + 1}
	}
	return nil
}

func aheadInHalf(b int) int {
	if b < most/2 {
		return b - 1
	}
	return 0
}

func fromFirst(b int) []int {
	if b > 0 {
		return behind(b)
	}
	all := from(1)
	slices.Reverse(all)
	return all
}

// from lists the blocks from b on.
func from(b int) []int {
	var list []int
	for ; b < most; b++ {
		list = append(list, b)
	}
	return list
}

// parents tells by a tree what each block hangs on.
func parents(t *testing.T, tree [][]int) []int {
	above := make([]int, len(tree))
	above[0] = -1
	for a, list := range tree {
		if !slices.IsSorted(list) {
			t.Fatal("the tree doesn't rise at", a)
		}
		for _, b := range list {
			above[b] = a
		}
	}
	return above
}

// P7.1: every function: such of very many blocks, whose ways up are long.
func TestGreat(t *testing.T) {
	for _, g := range greats() {
		lists, idom := make([][]int, most), make([]int, most)
		for b := range most {
			lists[b], idom[b] = g.to(b), g.idom(b)
		}
		idom[0] = -1
		f := goesTo(lists...)
		if !slices.Equal(dom.Idom(f), idom) || !slices.Equal(parents(t, dom.Tree(f)), idom) {
			t.Fatal(g.name, "has other nearest dominators")
		}
		if !dom.Dominates(f, 0, most-1) || dom.Dominates(f, most-1, 0) {
			t.Error(g.name, "at its ends")
		}
		if g.frontier == nil {
			continue
		}
		for b, list := range dom.Frontier(f) {
			if !slices.Equal(list, g.frontier(b)) {
				t.Fatal(g.name, "at", b, list, g.frontier(b))
			}
		}
	}
}
