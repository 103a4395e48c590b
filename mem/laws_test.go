package mem_test

import (
	"math"
	"slices"
	"testing"

	"lathe/api"
	"lathe/mem"
)

// P9.1: Norm and Pack, of each type and each kind of values, are what the words tell.
func TestValuesByWords(t *testing.T) {
	for _, typ := range types() {
		for _, v := range values() {
			if got, want := mem.Norm(typ, v), normByWords(typ, v); got != want {
				t.Fatal("Norm", typ, v, got, want)
			}
			if got, want := mem.Pack(typ, v), packByWords(typ, v); !slices.Equal(got, want) {
				t.Fatal("Pack", typ, v, got, want)
			}
		}
	}
}

// P9.1: Unpack, of bytes of any kind, as many as any type has or not, is what the words tell; the bytes stay.
func TestBytesByWords(t *testing.T) {
	r := seeded(91)
	for range 200000 {
		list := r.bytes()
		before := slices.Clone(list)
		for _, typ := range []int{r.typ(), api.Ptr, 8 * len(list), 8*len(list) - r.Intn(8)} {
			if got, want := mem.Unpack(typ, list), unpackByWords(typ, list); got != want {
				t.Fatal("Unpack", typ, list, got, want)
			}
		}
		if !slices.Equal(list, before) {
			t.Fatal("what is handed in is changed:", list, before)
		}
	}
}

// P9.2: Unpack of Pack is Norm; but of any of the type Ptr poison.
func TestUnpackOfPack(t *testing.T) {
	for _, typ := range types() {
		for _, v := range values() {
			want := mem.Norm(typ, v)
			if typ == api.Ptr && v.Kind == api.IsAny {
				want = poison
			}
			if got := mem.Unpack(typ, mem.Pack(typ, v)); got != want {
				t.Fatal(typ, v, got, want)
			}
		}
	}
}

// pair is a memory, and what it is by the words.
type pair struct {
	m *mem.Memory
	s *store
}

func pairOf(sizes []int) pair {
	return pair{mem.New(sizes), storeOf(sizes)}
}

// call makes one call of any kind, and holds what it answers against the words.
func (p pair) call(t *testing.T, r maker) {
	t.Helper()
	made := len(p.s.blocks)
	block, typ, v, at := r.block(made), r.typ(), r.val(made), r.addr(made)
	if r.Intn(30) == 0 {
		at.Kind = oneOf(r, kinds...)
	}
	switch r.Intn(12) {
	case 0:
		if size := r.size(); made < 12 {
			same(t, "Alloc", p.m.Alloc(size), p.s.alloc(size))
		}
	case 1:
		p.m.Free(block)
		p.s.free(block)
	case 2:
		at, b := int(r.off()), byte(r.Intn(256))
		same(t, "Set", p.m.Set(block, at, b), p.s.set(block, at, b))
	case 3, 4, 5:
		got, ok := p.m.Load(typ, at)
		want, wantOK := p.s.load(typ, at)
		same(t, "Load", got, want)
		same(t, "Load", ok, wantOK)
	default:
		same(t, "Store", p.m.Store(typ, v, at), p.s.lay(typ, v, at))
	}
}

func same[T comparable](t *testing.T, what string, got, want T) {
	t.Helper()
	if got != want {
		t.Fatal(what, "answers", got, "not", want)
	}
}

// check holds all that a memory holds against the words.
func (p pair) check(t *testing.T) {
	t.Helper()
	made := len(p.s.blocks)
	for block := -2; block < made+3; block++ {
		same(t, "Size", p.m.Size(block), p.s.size(block))
		if got, want := p.m.Bytes(block), p.s.bytes(block); !slices.Equal(got, want) {
			t.Fatal("Bytes of", block, got, want)
		}
	}
	for _, none := range []int{math.MinInt, math.MaxInt, made + 1<<20} {
		same(t, "Size", p.m.Size(none), -1)
		same(t, "Bytes", len(p.m.Bytes(none)), 0)
	}
}

// P9.1: every call in every order answers what the words tell; also of two memories at once, which have nothing in common.
func TestMemoryByWords(t *testing.T) {
	r := seeded(92)
	for range 4000 {
		both := []pair{pairOf(r.sizes()), pairOf(r.sizes())}
		for range 30 {
			p := oneOf(r, both...)
			p.call(t, r)
			both[0].check(t)
			both[1].check(t)
		}
	}
}

// P9.1: likewise in many calls behind each other, so that bytes are laid over each other time and again.
func TestLongByWords(t *testing.T) {
	r := seeded(93)
	for range 100 {
		p := pairOf([]int{20, 9, 8, 16})
		for i := range 1500 {
			p.call(t, r)
			if i%10 == 0 {
				p.check(t)
			}
		}
		p.check(t)
	}
}

// P9.2: what was stored is loaded again as a value of the type, and what lies elsewhere stays.
func TestStoredIsLoaded(t *testing.T) {
	r := seeded(94)
	for range 20000 {
		m := mem.New([]int{20, 20})
		m.Alloc(20)
		laid := api.Val{Kind: api.IsAddr, Block: r.Intn(3), Off: int64(r.Intn(13))}
		for b := range 3 {
			m.Store(api.Ptr, r.addr(3), api.Val{Kind: api.IsAddr, Block: b, Off: int64(r.Intn(13))})
		}
		var before [3][]api.Byte
		for b := range before {
			before[b] = m.Bytes(b)
		}
		typ, v := r.typ(), r.val(3)
		n := len(mem.Pack(typ, v))
		same(t, "Store", m.Store(typ, v, laid), n > 0)
		got, _ := m.Load(typ, laid)
		same(t, "Load", got, mem.Unpack(typ, mem.Pack(typ, v)))
		for b, list := range before {
			for i, one := range m.Bytes(b) {
				if i < int(laid.Off) || i >= int(laid.Off)+n || b != laid.Block {
					same(t, "a byte elsewhere", one, list[i])
				}
			}
		}
	}
}
