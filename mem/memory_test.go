package mem_test

import (
	"slices"
	"testing"

	"lathe/api"
	"lathe/mem"
)

// spoil writes over a list and its spare room.
func spoil(list []api.Byte) {
	for i := range list[:cap(list)] {
		list[:cap(list)][i] = api.Byte{Kind: 9, Bits: 9, Block: 9, Off: 9, I: 9}
	}
}

// P9.1: lists are new memory, spare room too: what is done to an answer is seen in no other one, and not in the memory.
func TestListsAreNew(t *testing.T) {
	m := mem.New([]int{8, 3})
	m.Alloc(5)
	checkStore(t, m, api.Ptr, addr(1, 2), addr(0, 0), true)
	same(t, "Set", m.Set(1, 1, 4), true)
	for block, want := range [][]api.Byte{pieces(1, 2), numbers(0, 4, 0), times(5, api.Byte{})} {
		one, other := m.Bytes(block), m.Bytes(block)
		spoil(one)
		checkBytes(t, "another answer", other, want)
		checkBytes(t, "the memory", m.Bytes(block), want)
		same(t, "Set", m.Set(block, 0, 77), true)
		checkBytes(t, "the answer ahead of Set", other, want)
	}
	for _, v := range values() {
		for _, typ := range []int{0, 8, 24, 64, api.Ptr} {
			one, other := mem.Pack(typ, v), mem.Pack(typ, v)
			spoil(one)
			checkBytes(t, "another Pack", other, packByWords(typ, v))
		}
	}
}

// P9.1: what is handed in is neither changed nor kept.
func TestHandedInStays(t *testing.T) {
	sizes := []int{2, -5, 9000, 1}
	before := slices.Clone(sizes)
	m := mem.New(sizes)
	if !slices.Equal(sizes, before) {
		t.Error("sizes are changed:", sizes)
	}
	sizes[0], sizes[3] = 9, 9
	same(t, "Size", m.Size(0), 2)
	same(t, "Size", m.Size(3), 1)
	list := pieces(1, 1)
	same(t, "Unpack", mem.Unpack(api.Ptr, list), addr(1, 1))
	checkBytes(t, "what Unpack was handed", list, pieces(1, 1))
}
