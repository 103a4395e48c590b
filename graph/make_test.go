package graph_test

import (
	"math"
	"math/rand"
	"reflect"
	"slices"
	"testing"

	"lathe/api"
)

func ending(op int, to ...int) api.Instr {
	return api.Instr{Op: op, Reg: -1, To: to}
}

func br(to int) api.Block               { return block(ending(api.Br, to)) }
func brif(a, b int) api.Block           { return block(ending(api.Brif, a, b)) }
func ret() api.Block                    { return block(ending(api.Ret)) }
func block(code ...api.Instr) api.Block { return api.Block{Code: code} }

func function(blocks ...api.Block) api.Func {
	return api.Func{Name: "f", Blocks: blocks}
}

// example is the chapter's.
func example() api.Func {
	return function(brif(2, 1), br(3), br(3), ret(), br(3))
}

// eachSmall shows all functions of at most three blocks whose ends go on to any block, or to a number that is just none.
func eachSmall(show func(f api.Func)) {
	for blocks := range 4 {
		ends := []api.Block{{}, ret()}
		for a := -1; a <= blocks; a++ {
			ends = append(ends, br(a))
			for b := -1; b <= blocks; b++ {
				ends = append(ends, brif(a, b))
			}
		}
		eachOf(ends, make([]api.Block, 0, blocks), blocks, show)
	}
}

func eachOf(ends, ahead []api.Block, more int, show func(f api.Func)) {
	if more == 0 {
		show(function(slices.Clone(ahead)...))
		return
	}
	for _, end := range ends {
		eachOf(ends, append(ahead, end), more-1, show)
	}
}

var wilds = []int{math.MinInt, -1 << 32, -2, -1, 0, 1, 64, 65, 1 << 32, math.MaxInt}

// wildInstr is most often one that goes on, to blocks that most often are there.
func wildInstr(r *rand.Rand, blocks int) api.Instr {
	in := api.Instr{Op: api.Br + r.Intn(2), Reg: r.Intn(9) - 1, Type: r.Intn(70), N: r.Intn(9)}
	if r.Intn(4) == 0 {
		in.Op = r.Intn(38) - 1
	}
	most := 3
	if r.Intn(6) == 0 {
		most = 20
	}
	for range r.Intn(most) {
		to := r.Intn(blocks+2) - 1
		if r.Intn(20) == 0 {
			to = wilds[r.Intn(len(wilds))]
		}
		in.To = append(in.To, to)
	}
	return in
}

func wildFunc(r *rand.Rand, most int) api.Func {
	blocks := make([]api.Block, r.Intn(most+1))
	for b := range blocks {
		for range r.Intn(4) {
			blocks[b].Code = append(blocks[b].Code, wildInstr(r, len(blocks)))
		}
	}
	return function(blocks...)
}

// eachFunc shows functions small and great, right and of any data, the same ones in every run.
func eachFunc(show func(f api.Func)) {
	show(api.Func{})
	show(example())
	eachSmall(show)
	r := rand.New(rand.NewSource(6))
	for range 4000 {
		show(wildFunc(r, 12))
	}
	for range 60 {
		show(wildFunc(r, 90))
	}
}

// copyOf copies a function's blocks without the packages of the program.
func copyOf(f api.Func) api.Func {
	f.Blocks = slices.Clone(f.Blocks)
	for b := range f.Blocks {
		f.Blocks[b].Code = slices.Clone(f.Blocks[b].Code)
		for i, in := range f.Blocks[b].Code {
			f.Blocks[b].Code[i].To = slices.Clone(in.To)
		}
	}
	return f
}

// spoil overwrites a list, its spare room too.
func spoil(list []int) {
	list = list[:cap(list)]
	for i := range list {
		list[i] = -99
	}
}

func sameLists(a, b [][]int) bool {
	return slices.EqualFunc(a, b, func(x, y []int) bool { return slices.Equal(x, y) })
}

func checkStays(t *testing.T, what string, f, before api.Func) {
	t.Helper()
	if !reflect.DeepEqual(f, before) {
		t.Fatal(what, "changes what is handed in:", f, before)
	}
}
