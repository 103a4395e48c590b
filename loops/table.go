package loops

import (
	"lathe/api"
)

// table holds the loops while their lists are made, block by block, rising.
type table struct {
	nest  nest
	loops []api.Loop
	place map[int]int // of each header the place of its loop
}

func tableOf(w flow) table {
	t := table{nest: nestOf(w), place: map[int]int{}}
	for _, h := range w.headers() {
		t.place[h] = len(t.loops)
		t.loops = append(t.loops, api.Loop{Header: h, Latch: t.nest.latches[h]})
	}
	return t
}

func (t table) loopOf(header int) *api.Loop {
	return &t.loops[t.place[header]]
}

// takeIn puts a block into all loops that it is in.
func (t table) takeIn(b int) {
	depth := 0
	for h := range t.nest.headersOf(b) {
		l := t.loopOf(h)
		l.Blocks = append(l.Blocks, b)
		depth++
	}
	if _, isHeader := t.place[b]; isHeader {
		t.loopOf(b).Depth = depth
	}
}

// leave makes a block, which was taken in last, an exit of all loops that its predecessor p is in and it isn't.
func (t table) leave(p, b int) {
	for h := range t.nest.headersOf(p) {
		l := t.loopOf(h)
		// Where a loop has the block, all around it have; where it was left for it already, all around it were.
		if endsWith(l.Blocks, b) || endsWith(l.Exits, b) {
			break
		}
		l.Exits = append(l.Exits, b)
	}
}

func endsWith(list []int, b int) bool {
	return len(list) > 0 && list[len(list)-1] == b
}
