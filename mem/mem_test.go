package mem_test

import (
	"math"
	"slices"
	"testing"

	"lathe/api"
	"lathe/mem"
)

func number(bits uint64) api.Val { return api.Val{Kind: api.IsInt, Bits: bits} }
func unknown() api.Val           { return api.Val{Kind: api.IsAny} }

func addr(block int, off int64) api.Val {
	return api.Val{Kind: api.IsAddr, Block: block, Off: off}
}

// numbers are bytes that are numbers.
func numbers(bits ...byte) []api.Byte {
	var list []api.Byte
	for _, b := range bits {
		list = append(list, api.Byte{Kind: api.ByteInt, Bits: b})
	}
	return list
}

// pieces are those of an address.
func pieces(block int, off int64) []api.Byte {
	list := make([]api.Byte, 8)
	for i := range list {
		list[i] = api.Byte{Kind: api.ByteAddr, Block: block, Off: off, I: i}
	}
	return list
}

func times(n int, b api.Byte) []api.Byte {
	return slices.Repeat([]api.Byte{b}, n)
}

func checkBytes(t *testing.T, what string, got, want []api.Byte) {
	t.Helper()
	if !slices.Equal(got, want) {
		t.Errorf("%s: %v, not %v", what, got, want)
	}
}

func checkLoad(t *testing.T, m *mem.Memory, typ int, at, want api.Val) {
	t.Helper()
	if got, ok := m.Load(typ, at); got != want || !ok {
		t.Errorf("Load(%d, %v): %v, %v, not %v", typ, at, got, ok, want)
	}
}

func checkNoLoad(t *testing.T, m *mem.Memory, typ int, at api.Val) {
	t.Helper()
	if got, ok := m.Load(typ, at); got != poison || ok {
		t.Errorf("Load(%d, %v): %v, %v", typ, at, got, ok)
	}
}

func checkStore(t *testing.T, m *mem.Memory, typ int, v, at api.Val, want bool) {
	t.Helper()
	if got := m.Store(typ, v, at); got != want {
		t.Errorf("Store(%d, %v, %v): %v", typ, v, at, got)
	}
}

// The chapter's examples.
func TestExamples(t *testing.T) {
	checkBytes(t, "Pack", mem.Pack(16, number(258)), numbers(2, 1))
	same(t, "Unpack", mem.Unpack(12, numbers(255, 255)), number(4095))
	checkBytes(t, "Pack", mem.Pack(32, addr(1, 2)), times(4, api.Byte{}))
	m := mem.New([]int{4})
	checkLoad(t, m, 32, addr(0, 0), number(0))
	checkStore(t, m, 64, number(7), addr(0, 0), false)
	checkStore(t, m, 8, number(7), addr(0, 3), true)
	checkLoad(t, m, 32, addr(0, 0), number(7<<24))
	checkNoLoad(t, m, 8, addr(0, 4))
	checkNoLoad(t, m, 8, addr(0, -1))
}

// The chapter's example of an address that is overwritten in part, and of one whose block is freed.
func TestExampleOfAddress(t *testing.T) {
	m := mem.New([]int{16})
	to := m.Alloc(1)
	for _, at := range []api.Val{addr(0, 0), addr(0, 8)} {
		checkStore(t, m, api.Ptr, addr(to, 5), at, true)
		checkLoad(t, m, 64, at, poison)
		checkLoad(t, m, api.Ptr, at, addr(to, 5))
	}
	checkStore(t, m, 32, number(1), addr(0, 2), true)
	checkLoad(t, m, api.Ptr, addr(0, 0), poison)
	checkLoad(t, m, api.Ptr, addr(0, 8), addr(to, 5))
	m.Free(to)
	checkLoad(t, m, api.Ptr, addr(0, 8), poison)
	checkBytes(t, "behind Free", m.Bytes(0), slices.Concat(times(2, api.Byte{}), numbers(1, 0, 0, 0), times(10, api.Byte{})))
}

// P9.1: how many bytes a type has.
func TestWidths(t *testing.T) {
	for typ, want := range map[int]int{-1: 0, 0: 0, 1: 1, 7: 1, 8: 1, 9: 2, 16: 2, 17: 3, 33: 5, 56: 7, 57: 8, 64: 8, 65: 8, 66: 0, 72: 0} {
		if got := len(mem.Pack(typ, number(1))); got != want {
			t.Error("type", typ, "has", got, "bytes")
		}
	}
}

// P9.1: a value as one of a type.
func TestNorm(t *testing.T) {
	same(t, "a number", mem.Norm(8, api.Val{Kind: api.IsInt, Bits: 511, Block: 3, Off: 4}), number(255))
	same(t, "of 64", mem.Norm(64, number(math.MaxUint64)), number(math.MaxUint64))
	same(t, "an address", mem.Norm(api.Ptr, api.Val{Kind: api.IsAddr, Bits: 9, Block: -1, Off: 4}), addr(-1, 4))
	same(t, "any", mem.Norm(1, api.Val{Kind: api.IsAny, Bits: 9, Block: 1, Off: 4}), unknown())
	same(t, "any address", mem.Norm(api.Ptr, unknown()), unknown())
	same(t, "a number as an address", mem.Norm(api.Ptr, number(1)), poison)
	same(t, "an address as a number", mem.Norm(64, addr(0, 0)), poison)
	same(t, "poison", mem.Norm(64, api.Val{Bits: 1, Block: 1, Off: 1}), poison)
	for _, no := range []int{api.Void, -1, 66} {
		for _, v := range []api.Val{number(1), addr(0, 0), unknown(), poison} {
			same(t, "of no type", mem.Norm(no, v), poison)
			checkBytes(t, "of no type", mem.Pack(no, v), nil)
			same(t, "of no type", mem.Unpack(no, nil), poison)
			same(t, "of no type", mem.Unpack(no, numbers(1)), poison)
		}
	}
}

// P9.1: the bytes of any are any of a number, and poison of an address.
func TestPackOfAny(t *testing.T) {
	checkBytes(t, "of 24", mem.Pack(24, unknown()), times(3, api.Byte{Kind: api.ByteAny}))
	checkBytes(t, "of 64", mem.Pack(64, unknown()), times(8, api.Byte{Kind: api.ByteAny}))
	checkBytes(t, "of Ptr", mem.Pack(api.Ptr, unknown()), times(8, api.Byte{}))
	checkBytes(t, "of poison", mem.Pack(api.Ptr, poison), times(8, api.Byte{}))
	checkBytes(t, "of null", mem.Pack(api.Ptr, addr(-1, 0)), pieces(-1, 0))
}

// P9.1: which bytes are a number, any, an address, or poison.
func TestUnpack(t *testing.T) {
	tell := api.Byte{Kind: api.ByteAny}
	same(t, "numbers", mem.Unpack(24, numbers(1, 2, 3)), number(0x030201))
	same(t, "the lowest bits", mem.Unpack(17, numbers(1, 2, 255)), number(0x010201))
	same(t, "any among numbers", mem.Unpack(16, []api.Byte{numbers(1)[0], tell}), unknown())
	same(t, "any ahead of a number", mem.Unpack(16, []api.Byte{tell, numbers(1)[0]}), unknown())
	same(t, "any alone", mem.Unpack(9, []api.Byte{tell, tell}), unknown())
	same(t, "poison behind any", mem.Unpack(16, []api.Byte{tell, {}}), poison)
	same(t, "poison ahead of any", mem.Unpack(16, []api.Byte{{}, tell}), poison)
	same(t, "poison among numbers", mem.Unpack(16, []api.Byte{{}, numbers(1)[0]}), poison)
	same(t, "too few", mem.Unpack(16, numbers(1)), poison)
	same(t, "too many", mem.Unpack(16, numbers(1, 2, 3)), poison)
	same(t, "an address", mem.Unpack(api.Ptr, pieces(7, -3)), addr(7, -3))
	same(t, "an address as a number", mem.Unpack(64, pieces(7, -3)), poison)
	same(t, "numbers as an address", mem.Unpack(api.Ptr, numbers(1, 2, 3, 4, 5, 6, 7, 8)), poison)
	same(t, "any as an address", mem.Unpack(api.Ptr, times(8, tell)), poison)
	same(t, "seven pieces", mem.Unpack(api.Ptr, pieces(7, -3)[:7]), poison)
	same(t, "nine pieces", mem.Unpack(api.Ptr, append(pieces(7, -3), pieces(7, -3)[0])), poison)
}

// P9.1: one piece of another kind, address or number, or two in each other's places, and it is no address.
func TestUnpackOfSpoiltPieces(t *testing.T) {
	for i := range 8 {
		for _, spoil := range []func(b *api.Byte){
			func(b *api.Byte) { b.Kind = api.ByteInt },
			func(b *api.Byte) { b.Kind = api.ByteAny },
			func(b *api.Byte) { *b = api.Byte{} },
			func(b *api.Byte) { b.Block++ },
			func(b *api.Byte) { b.Off++ },
			func(b *api.Byte) { b.I = (b.I + 1) % 8 },
			func(b *api.Byte) { b.I += 8 },
		} {
			list := pieces(2, 5)
			spoil(&list[i])
			same(t, "spoilt pieces", mem.Unpack(api.Ptr, list), poison)
		}
	}
	list := pieces(2, 5)
	slices.Reverse(list)
	same(t, "pieces the other way round", mem.Unpack(api.Ptr, list), poison)
}

// P9.1: blocks are numbered as they are made, New's are of the number 0, Alloc's of poison; sizes are cut to 0 and 4096.
func TestBlocks(t *testing.T) {
	m := mem.New([]int{3, -1, 4097, math.MinInt, math.MaxInt})
	for block, want := range []int{3, 0, 4096, 0, 4096} {
		same(t, "Size", m.Size(block), want)
		checkBytes(t, "of New", m.Bytes(block), times(want, api.Byte{Kind: api.ByteInt}))
	}
	for i, size := range []int{2, 0, 4096, -1, 5000, math.MaxInt, math.MinInt} {
		same(t, "Alloc", m.Alloc(size), 5+i)
		want := min(max(size, 0), 4096)
		same(t, "Size", m.Size(5+i), want)
		checkBytes(t, "of Alloc", m.Bytes(5+i), times(want, api.Byte{}))
	}
	for _, none := range []int{-1, 12, math.MinInt, math.MaxInt} {
		same(t, "Size of none", m.Size(none), -1)
		checkBytes(t, "of none", m.Bytes(none), nil)
	}
	same(t, "Alloc of an empty memory", mem.New(nil).Alloc(1), 0)
}

// P9.1: a block that is freed is no more, and its number never comes again.
func TestFree(t *testing.T) {
	m := mem.New([]int{1, 1})
	checkStore(t, m, 8, number(9), addr(0, 0), true)
	for _, none := range []int{-1, 2, math.MaxInt, 0, 0} {
		m.Free(none)
	}
	same(t, "Size", m.Size(0), -1)
	checkBytes(t, "freed", m.Bytes(0), nil)
	checkNoLoad(t, m, 8, addr(0, 0))
	checkStore(t, m, 8, number(1), addr(0, 0), false)
	same(t, "Set", m.Set(0, 0, 1), false)
	same(t, "Alloc", m.Alloc(1), 2)
	m.Free(2)
	same(t, "Alloc", m.Alloc(1), 3)
	checkBytes(t, "one that wasn't freed", m.Bytes(1), numbers(0))
}

// P9.1: Free takes the pieces that lie there then: those of its block in every block, single ones too, and no others.
func TestFreeOfPieces(t *testing.T) {
	m := mem.New([]int{16, 8})
	first, second := m.Alloc(8), m.Alloc(8)
	checkStore(t, m, api.Ptr, addr(first, -3), addr(0, 0), true)
	checkStore(t, m, api.Ptr, addr(second, 1), addr(0, 6), true)
	checkStore(t, m, api.Ptr, addr(first, 2), addr(1, 0), true)
	checkStore(t, m, api.Ptr, addr(first, 0), addr(second, 0), true)
	m.Free(first)
	checkBytes(t, "two addresses", m.Bytes(0), slices.Concat(times(6, api.Byte{}), pieces(second, 1), numbers(0, 0)))
	checkBytes(t, "of New", m.Bytes(1), times(8, api.Byte{}))
	checkBytes(t, "of Alloc", m.Bytes(second), times(8, api.Byte{}))
}

// P9.1: an address whose block is no more may be stored; the next Free, of whatever it is, leaves it.
func TestAddressOfFreed(t *testing.T) {
	m := mem.New([]int{16})
	gone, other := m.Alloc(8), m.Alloc(8)
	checkStore(t, m, api.Ptr, addr(gone, 1), addr(0, 0), true)
	m.Free(gone)
	checkStore(t, m, api.Ptr, addr(gone, 4), addr(0, 8), true)
	checkLoad(t, m, api.Ptr, addr(0, 0), poison)
	checkLoad(t, m, api.Ptr, addr(0, 8), addr(gone, 4))
	m.Free(gone)
	m.Free(other)
	m.Alloc(8)
	checkLoad(t, m, api.Ptr, addr(0, 8), addr(gone, 4))
	checkBytes(t, "both", m.Bytes(0), slices.Concat(times(8, api.Byte{}), pieces(gone, 4)))
}

// P9.1: an address of a block that isn't made yet is one of it when it is made, and goes with it.
func TestAddressOfNextBlock(t *testing.T) {
	m := mem.New([]int{24})
	checkStore(t, m, api.Ptr, addr(1, 0), addr(0, 0), true)
	checkStore(t, m, api.Ptr, addr(2, 0), addr(0, 8), true)
	checkStore(t, m, api.Ptr, addr(-1, 0), addr(0, 16), true)
	m.Free(1)
	m.Free(-1)
	checkLoad(t, m, api.Ptr, addr(0, 0), addr(1, 0))
	m.Alloc(1)
	checkLoad(t, m, api.Ptr, addr(0, 0), addr(1, 0))
	m.Free(1)
	m.Alloc(1)
	checkBytes(t, "three addresses", m.Bytes(0), slices.Concat(times(8, api.Byte{}), pieces(2, 0), pieces(-1, 0)))
}

// P9.1: where a value may lie, for every width, and what is no address.
func TestEdges(t *testing.T) {
	for typ := 1; typ <= api.Ptr; typ++ {
		n := len(mem.Pack(typ, poison))
		for size := range 12 {
			m := mem.New([]int{size})
			for off := int64(-9); off < 14; off++ {
				_, ok := m.Load(typ, addr(0, off))
				same(t, "Load", ok, off >= 0 && int(off)+n <= size)
				same(t, "Store", m.Store(typ, poison, addr(0, off)), ok)
			}
		}
		m := mem.New([]int{8})
		for _, at := range []api.Val{addr(0, math.MaxInt64), addr(0, math.MinInt64), addr(0, math.MaxInt64-7), addr(0, 1<<32), addr(1, 0), addr(-1, 0), number(0), unknown(), poison} {
			checkNoLoad(t, m, typ, at)
			checkStore(t, m, typ, number(1), at, false)
		}
		checkBytes(t, "nothing is done", m.Bytes(0), times(8, api.Byte{Kind: api.ByteInt}))
	}
	m := mem.New([]int{8, 0})
	for _, no := range []int{api.Void, -1, -64, 66, math.MinInt, math.MaxInt} {
		checkNoLoad(t, m, no, addr(0, 0))
		checkNoLoad(t, m, no, addr(1, 0))
		checkStore(t, m, no, number(1), addr(0, 0), false)
	}
}

// P9.1: Set lays one number, over whatever lies there.
func TestSet(t *testing.T) {
	m := mem.New([]int{2})
	m.Alloc(8)
	checkStore(t, m, api.Ptr, addr(0, 0), addr(1, 0), true)
	same(t, "Set", m.Set(0, 1, 200), true)
	same(t, "Set", m.Set(1, 7, 0), true)
	for _, none := range []struct{ block, at int }{{0, 2}, {0, -1}, {1, 8}, {1, math.MaxInt}, {1, math.MinInt}, {2, 0}, {-1, 0}} {
		same(t, "Set of none", m.Set(none.block, none.at, 5), false)
	}
	checkBytes(t, "of New", m.Bytes(0), numbers(0, 200))
	checkBytes(t, "of Alloc", m.Bytes(1), append(pieces(0, 0)[:7], numbers(0)...))
	checkLoad(t, m, api.Ptr, addr(1, 0), poison)
}

// P9.1: what is stored of the type, not more: bits beyond it are gone, and a value that isn't of it is poison.
func TestStoreOfType(t *testing.T) {
	m := mem.New([]int{8})
	checkStore(t, m, 12, number(0xffff), addr(0, 0), true)
	checkBytes(t, "12 bits", m.Bytes(0), numbers(255, 15, 0, 0, 0, 0, 0, 0))
	checkStore(t, m, 16, unknown(), addr(0, 1), true)
	checkLoad(t, m, 32, addr(0, 0), unknown())
	checkLoad(t, m, 8, addr(0, 0), number(255))
	checkStore(t, m, 8, addr(0, 0), addr(0, 3), true)
	checkLoad(t, m, 32, addr(0, 0), poison)
	checkLoad(t, m, 16, addr(0, 1), unknown())
	checkStore(t, m, api.Ptr, number(0), addr(0, 0), true)
	checkBytes(t, "a number as an address", m.Bytes(0), times(8, api.Byte{}))
}
