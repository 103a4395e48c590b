package comb

import "sort"

// line is a heap of numbers, the least one ahead.
type line struct{ sort.IntSlice }

func (l *line) Push(n any) {
	l.IntSlice = append(l.IntSlice, n.(int))
}

func (l *line) Pop() any {
	last := len(l.IntSlice) - 1
	n := l.IntSlice[last]
	l.IntSlice = l.IntSlice[:last]
	return n
}
