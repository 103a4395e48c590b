package mem_test

import (
	"testing"

	"lathe/api"
	"lathe/mem"
)

// P1 and P9.1: very many blocks, of the greatest size, made and freed in any order, with addresses of each other.
func TestManyBlocks(t *testing.T) {
	const most = 1 << 19
	sizes := make([]int, most)
	for i := range sizes {
		sizes[i] = 1 << 30
	}
	m := mem.New(sizes)
	for i := range most {
		same(t, "Alloc", m.Alloc(4096), most+i)
	}
	same(t, "Size", m.Size(2*most-1), 4096)
	checkLoad(t, m, 8, addr(most-1, 4095), number(0))
	checkLoad(t, m, 8, addr(most, 4095), poison)
	for i := range most {
		checkStore(t, m, api.Ptr, addr(most+i, 0), addr(i%64, int64(i/64%512*8)), true)
		checkStore(t, m, 8, number(1), addr(most+i, 3), true)
	}
	for i := range most {
		m.Free(most + i)
	}
	for i := 64; i < most; i++ {
		m.Free(i)
	}
	for block := range 64 {
		checkBytes(t, "behind all Frees", m.Bytes(block), times(4096, api.Byte{}))
	}
	same(t, "Alloc", m.Alloc(1), 2*most)
}

// P9.1: a block that comes and goes time and again, beside many that are alive and hold its address.
func TestComeAndGo(t *testing.T) {
	m := mem.New(nil)
	for range 10000 {
		m.Alloc(64)
	}
	for i := range 300000 {
		block, at := m.Alloc(64), addr(i%10000, 8)
		checkStore(t, m, api.Ptr, addr(block, 0), at, true)
		checkLoad(t, m, api.Ptr, at, addr(block, 0))
		m.Free(block)
		checkLoad(t, m, api.Ptr, at, poison)
	}
}
