package dom_test

import (
	"math"
	"math/rand"
	"reflect"
	"slices"
	"testing"

	"lathe/api"
	"lathe/ir"
)

// goesTo is a function whose blocks go on to those that are told.
func goesTo(lists ...[]int) api.Func {
	f := api.Func{Name: "f"}
	for _, to := range lists {
		f.Blocks = append(f.Blocks, api.Block{Code: []api.Instr{{Op: api.Brif, Reg: -1, To: to}}})
	}
	return f
}

// example is the chapter's.
func example() api.Func {
	return goesTo([]int{1, 2}, []int{3}, []int{3, 4}, []int{1, 5}, []int{5}, nil, []int{5})
}

// eachOfSize shows the functions of so many blocks, one for each way in which blocks may follow each other.
func eachOfSize(blocks int, show func(f api.Func)) {
	for set := range 1 << (blocks * blocks) {
		lists := make([][]int, blocks)
		for bit := range blocks * blocks {
			if set>>bit&1 == 1 {
				lists[bit/blocks] = append(lists[bit/blocks], bit%blocks)
			}
		}
		show(goesTo(lists...))
	}
}

var wilds = []int{math.MinInt, -1 << 32, -2, -1, 64, 65, 1 << 32, math.MaxInt}

// sparse has few numbers in most Tos, most of them near the block, so that ways are long and go up and down.
func sparse(r *rand.Rand, blocks int) api.Func {
	lists := make([][]int, blocks)
	for b := range lists {
		for range 1 + r.Intn(2) {
			to := b - 3 + r.Intn(8)
			if r.Intn(4) == 0 {
				to = r.Intn(blocks)
			}
			lists[b] = append(lists[b], to)
		}
		r.Shuffle(len(lists[b]), func(i, j int) { lists[b][i], lists[b][j] = lists[b][j], lists[b][i] })
	}
	return goesTo(lists...)
}

// wild has blocks of any code, whose ends may be none, or name what is no block.
func wild(r *rand.Rand, blocks int) api.Func {
	f := sparse(r, blocks)
	for b := range f.Blocks {
		code := f.Blocks[b].Code
		switch r.Intn(8) {
		case 0:
			code[0].Op = r.Intn(38) - 1
		case 1:
			code[0].To = append(code[0].To, wilds[r.Intn(len(wilds))], r.Intn(blocks))
		case 2:
			code = append(code, api.Instr{Op: api.Br, Reg: r.Intn(9), To: []int{r.Intn(blocks)}})
		case 3:
			code = append(code, api.Instr{Op: r.Intn(38) - 1, To: []int{r.Intn(blocks)}})
		case 4:
			code = code[:r.Intn(2)]
		}
		f.Blocks[b].Code = code
	}
	return f
}

// eachFunc shows functions small and great, right and of any data, the same ones in every run.
func eachFunc(show func(f api.Func)) {
	show(example())
	for blocks := range 4 {
		eachOfSize(blocks, show)
	}
	r := rand.New(rand.NewSource(7))
	for range 600 {
		show(sparse(r, 1+r.Intn(14)))
		show(wild(r, 1+r.Intn(14)))
	}
	for range 4 {
		show(sparse(r, 64))
		show(wild(r, 64))
	}
}

func sameLists(a, b [][]int) bool {
	return slices.EqualFunc(a, b, func(x, y []int) bool { return slices.Equal(x, y) })
}

// checkStays runs what makes calls, and looks whether what is handed in is as it was.
func checkStays(t *testing.T, f api.Func, calls func()) {
	t.Helper()
	before := ir.CopyFunc(f)
	calls()
	if !reflect.DeepEqual(f, before) {
		t.Fatal("what is handed in is changed:", f, before)
	}
}
