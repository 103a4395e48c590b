package mem_test

import (
	"math"
	"math/rand"

	"lathe/api"
)

// maker makes arguments; seeded, the same ones in every run.
type maker struct{ *rand.Rand }

func seeded(n int64) maker {
	return maker{rand.New(rand.NewSource(n))}
}

func oneOf[T any](r maker, all ...T) T {
	return all[r.Intn(len(all))]
}

// types are all that there are, and some that there aren't.
func types() []int {
	all := []int{math.MinInt, -1 << 32, 1 << 32, 1<<32 + 8, 256 + 8, math.MaxInt}
	for t := -70; t <= 140; t++ {
		all = append(all, t)
	}
	return all
}

var kinds = []int{api.IsPoison, api.IsInt, api.IsAddr, api.IsAny, -1, 4, 257, math.MinInt, math.MaxInt}

// values have each kind with each field that may matter, and with such that don't.
func values() []api.Val {
	var all []api.Val
	for _, kind := range kinds {
		for _, bits := range []uint64{0, 1, 127, 128, 255, 256, 258, 1 << 31, 1<<32 - 1, 0x0123456789abcdef, 1<<63 - 1, 1 << 63, math.MaxUint64} {
			all = append(all, api.Val{Kind: kind, Bits: bits}, api.Val{Kind: kind, Bits: bits, Block: 3, Off: -7})
		}
		for _, block := range []int{0, -1, 1, 1 << 40, math.MinInt, math.MaxInt} {
			for _, off := range []int64{0, 4, -1, math.MinInt64, math.MaxInt64} {
				all = append(all, api.Val{Kind: kind, Block: block, Off: off}, api.Val{Kind: kind, Block: block, Off: off, Bits: 5})
			}
		}
	}
	return all
}

// typ is often one whose values are as wide as the blocks of the tests.
func (r maker) typ() int {
	return oneOf(r, api.Ptr, api.Ptr, api.Ptr, 8, 8, 32, 64, 1+r.Intn(64), 1+r.Intn(64), r.Intn(70)-2)
}

// block is one of so many, or the next ones that will be, or none.
func (r maker) block(made int) int {
	if r.Intn(20) == 0 {
		return oneOf(r, -1, -2, math.MinInt, math.MaxInt, made+1000)
	}
	return r.Intn(made + 2)
}

// off is mostly in a block of few bytes, or nearly so.
func (r maker) off() int64 {
	if r.Intn(30) == 0 {
		return oneOf[int64](r, math.MinInt64, math.MinInt64+8, -8, math.MaxInt64, math.MaxInt64-7, 1<<32, 4096)
	}
	return int64(r.Intn(22) - 2)
}

func (r maker) addr(made int) api.Val {
	v := api.Val{Kind: api.IsAddr, Block: r.block(made), Off: oneOf(r, r.off(), 0, 1)}
	if r.Intn(9) == 0 {
		v.Bits = r.Uint64()
	}
	return v
}

func (r maker) val(made int) api.Val {
	switch r.Intn(8) {
	case 0:
		return oneOf(r, values()...)
	case 1:
		return api.Val{Kind: api.IsAny}
	case 2:
		return poison
	case 3, 4:
		return api.Val{Kind: api.IsInt, Bits: r.Uint64()}
	}
	return r.addr(made)
}

func (r maker) size() int {
	if r.Intn(200) == 0 {
		return oneOf(r, math.MinInt, -1, 4095, 4096, 4097, math.MaxInt)
	}
	return oneOf(r, 0, 1, 7, 8, 9, 16, 16, 20, 20, r.Intn(24))
}

func (r maker) sizes() []int {
	var sizes []int
	for range r.Intn(4) {
		sizes = append(sizes, r.size())
	}
	return sizes
}

// bytes are those of a value, some of them otherwise; or any.
func (r maker) bytes() []api.Byte {
	list := packByWords(r.typ(), r.val(3))
	if r.Intn(3) == 0 {
		list = nil
		for range r.Intn(10) {
			list = append(list, r.byte())
		}
	}
	for i := range list {
		switch r.Intn(24) {
		case 0:
			list[i] = r.byte()
		case 1:
			list[i].Bits = byte(r.Intn(256))
		case 2:
			list[i].Block++
		case 3:
			list[i].Off--
		case 4:
			list[i].I = oneOf(r, -1, 0, 1, 7, 8, i+8, i+256)
		case 5:
			list[i].Kind = oneOf(r, kinds...)
		}
	}
	return list
}

func (r maker) byte() api.Byte {
	b := api.Byte{Kind: oneOf(r, 0, 1, 1, 1, 2, 3, 3), Bits: byte(r.Intn(256))}
	if r.Intn(2) == 0 {
		b.Block, b.Off, b.I = r.Intn(3), int64(r.Intn(3)), r.Intn(8)
	}
	return b
}
