package loops

import (
	"iter"
	"slices"
)

// nest is how loops lie in each other: two have no block in common, or one of them is in the other one.
type nest struct {
	latches map[int][]int // of each header
	around  map[int]int   // of each block the header of the innermost loop that it is in; a header's own loop doesn't count
	short   map[int]int   // likewise, or of one further out: while a nest is made, the ways up in it are long, and gone again and again
}

func nestOf(w flow) nest {
	n := nest{map[int][]int{}, map[int]int{}, map[int]int{}}
	// The header of a loop in another one is dominated by the other's, and so stands behind it in the order: from the last one on the inner ones come first.
	for _, h := range slices.Backward(w.order) {
		if latches, _ := w.split(h); len(latches) > 0 {
			n.latches[h] = latches
			n.gather(w, h)
		}
	}
	return n
}

// gather goes back from the latches of a header, over its loop's blocks, and over each loop in it as if that were one block.
func (n nest) gather(w flow, h int) {
	left := slices.Clone(n.latches[h])
	for len(left) > 0 {
		last := len(left) - 1
		b := n.outermost(left[last])
		left = left[:last]
		if b == h {
			continue
		}
		n.around[b], n.short[b] = h, h
		for _, p := range w.preds[b] {
			if w.isReached(p) {
				left = append(left, p)
			}
		}
	}
}

// outermost is the header of the outermost loop gathered so far that a block is in; the block itself, if it is in none, or is that header.
func (n nest) outermost(b int) int {
	for {
		up, isIn := n.short[b]
		if !isIn {
			return b
		}
		if further, isIn := n.short[up]; isIn {
			n.short[b] = further
		}
		b = up
	}
}

// headersOf goes over the headers of all loops that a block is in, the innermost first.
func (n nest) headersOf(b int) iter.Seq[int] {
	return func(yield func(int) bool) {
		h, isIn := b, true
		if len(n.latches[b]) == 0 {
			h, isIn = n.around[b]
		}
		for isIn && yield(h) {
			h, isIn = n.around[h]
		}
	}
}
