package mem_test

import (
	"math/big"

	"lathe/api"
)

// The chapter's words once more, as plainly as they are told, by other means than the package has.

var poison = api.Val{}

func widthByWords(t int) int {
	switch {
	case t == 65:
		return 8
	case t < 1 || t > 64:
		return 0
	}
	n := 0
	for n*8 < t {
		n++
	}
	return n
}

func normByWords(t int, v api.Val) api.Val {
	isWidth, isPtr := 1 <= t && t <= 64, t == 65
	switch {
	case v.Kind == 1 && isWidth:
		return api.Val{Kind: 1, Bits: lowest(t, new(big.Int).SetUint64(v.Bits))}
	case v.Kind == 2 && isPtr:
		return api.Val{Kind: 2, Block: v.Block, Off: v.Off}
	case v.Kind == 3 && (isWidth || isPtr):
		return api.Val{Kind: 3}
	}
	return poison
}

// lowest is the rest by 2^t.
func lowest(t int, v *big.Int) uint64 {
	power := new(big.Int).Exp(big.NewInt(2), big.NewInt(int64(t)), nil)
	return new(big.Int).Rem(v, power).Uint64()
}

func packByWords(t int, v api.Val) []api.Byte {
	var list []api.Byte
	v = normByWords(t, v)
	left := new(big.Int).SetUint64(v.Bits)
	for i := range widthByWords(t) {
		var b api.Byte
		switch v.Kind {
		case 1:
			rest := new(big.Int)
			left.QuoRem(left, big.NewInt(256), rest)
			b = api.Byte{Kind: 1, Bits: byte(rest.Int64())}
		case 2:
			b = api.Byte{Kind: 2, Block: v.Block, Off: v.Off, I: i}
		case 3:
			if t <= 64 {
				b = api.Byte{Kind: 3}
			}
		}
		list = append(list, b)
	}
	return list
}

func unpackByWords(t int, list []api.Byte) api.Val {
	n := widthByWords(t)
	if n == 0 || len(list) != n {
		return poison
	}
	kinds := map[int]int{}
	sum, pieces := new(big.Int), 0
	for i := n - 1; i >= 0; i-- {
		b := list[i]
		kinds[b.Kind]++
		sum.Mul(sum, big.NewInt(256))
		sum.Add(sum, big.NewInt(int64(b.Bits)))
		if b.Kind == 2 && b.I == i && b.Block == list[0].Block && b.Off == list[0].Off {
			pieces++
		}
	}
	switch {
	case t <= 64 && kinds[1] == n:
		return api.Val{Kind: 1, Bits: lowest(t, sum)}
	case t <= 64 && kinds[1]+kinds[3] == n:
		return api.Val{Kind: 3}
	case t == 65 && pieces == n:
		return api.Val{Kind: 2, Block: list[0].Block, Off: list[0].Off}
	}
	return poison
}

// store is a memory by the words: all blocks that ever were, all bytes as they are.
type store struct{ blocks []held }

type held struct {
	alive bool
	bytes []api.Byte
}

func storeOf(sizes []int) *store {
	s := &store{}
	for _, size := range sizes {
		s.add(size, api.Byte{Kind: 1})
	}
	return s
}

func (s *store) add(size int, all api.Byte) int {
	var bytes []api.Byte
	for len(bytes) < size && len(bytes) < 4096 {
		bytes = append(bytes, all)
	}
	s.blocks = append(s.blocks, held{true, bytes})
	return len(s.blocks) - 1
}

func (s *store) alloc(size int) int {
	return s.add(size, api.Byte{})
}

func (s *store) isAlive(block int) bool {
	return block >= 0 && block < len(s.blocks) && s.blocks[block].alive
}

func (s *store) free(block int) {
	if !s.isAlive(block) {
		return
	}
	s.blocks[block] = held{}
	for _, h := range s.blocks {
		for i, b := range h.bytes {
			if b.Kind == 2 && b.Block == block {
				h.bytes[i] = api.Byte{}
			}
		}
	}
}

func (s *store) size(block int) int {
	if !s.isAlive(block) {
		return -1
	}
	return len(s.blocks[block].bytes)
}

func (s *store) bytes(block int) []api.Byte {
	if !s.isAlive(block) {
		return nil
	}
	return s.blocks[block].bytes
}

// part is where a value of the type lies at the address, and whether it lies there.
func (s *store) part(t int, at api.Val) ([]api.Byte, bool) {
	n := int64(widthByWords(t))
	if at.Kind != 2 || !s.isAlive(at.Block) || n == 0 {
		return nil, false
	}
	bytes := s.blocks[at.Block].bytes
	end := new(big.Int).Add(big.NewInt(at.Off), big.NewInt(n))
	if at.Off < 0 || end.Cmp(big.NewInt(int64(len(bytes)))) > 0 {
		return nil, false
	}
	return bytes[at.Off : at.Off+n], true
}

func (s *store) load(t int, at api.Val) (api.Val, bool) {
	part, ok := s.part(t, at)
	if !ok {
		return poison, false
	}
	return unpackByWords(t, part), true
}

func (s *store) lay(t int, v, at api.Val) bool {
	part, ok := s.part(t, at)
	for i, b := range packByWords(t, v) {
		if ok {
			part[i] = b
		}
	}
	return ok
}

func (s *store) set(block, at int, b byte) bool {
	if at < 0 || at >= s.size(block) {
		return false
	}
	s.blocks[block].bytes[at] = api.Byte{Kind: 1, Bits: b}
	return true
}
