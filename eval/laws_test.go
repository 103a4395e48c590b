package eval_test

import (
	"slices"
	"testing"

	"lathe/api"
	"lathe/eval"
)

// checkByWords holds one call against the words, and asks that what is handed in stays.
func checkByWords(t *testing.T, in api.Instr, args []api.Val) {
	t.Helper()
	before, operands, blocks := slices.Clone(args), slices.Clone(in.Args), slices.Clone(in.To)
	got, end := eval.Eval(in, args)
	want, wantEnd := evalByWords(in, args)
	if got != want || end != wantEnd {
		t.Fatal("Eval", in, args, "answers", got, end, "not", want, wantEnd)
	}
	if !slices.Equal(args, before) || !slices.Equal(in.Args, operands) || !slices.Equal(in.To, blocks) {
		t.Fatal("what is handed in is changed:", in, args, before)
	}
}

// P10.1: every such instruction of small types with all values of them, and of great ones with those at the edges.
func TestAllByWords(t *testing.T) {
	for _, in := range instrs(1, 2, 3, 8, 33, 63, 64, api.Ptr) {
		var lists [][]api.Val
		for _, typ := range wantedBy(in) {
			lists = append(lists, valuesOf(typ))
		}
		rowsOf(func(args []api.Val) { checkByWords(t, in, args) }, lists...)
	}
}

// P10.1: likewise of values that aren't as their types have them, in each place.
func TestStraysByWords(t *testing.T) {
	for _, in := range instrs(1, 7, 64, api.Ptr) {
		wants := wantedBy(in)
		for stray := range wants {
			var lists [][]api.Val
			for i, typ := range wants {
				if i == stray {
					lists = append(lists, strays())
				} else {
					lists = append(lists, valuesOf(typ))
				}
			}
			rowsOf(func(args []api.Val) { checkByWords(t, in, args) }, lists...)
		}
	}
}

// P10.1: every instruction of any data, with any values, more or fewer than it wants.
func TestAnyByWords(t *testing.T) {
	r := seeded(101)
	met := map[int]int{}
	for range 400000 {
		in := r.instr()
		args := r.args(in)
		checkByWords(t, in, args)
		_, end := eval.Eval(in, args)
		met[end]++
	}
	for _, end := range []int{ends, undefined, noSuch, loose} {
		if met[end] < 1000 {
			t.Error("hardly any instruction ends", end, met)
		}
	}
}

// P10.1: which instructions there are, by Op, Type, N, Flags, and how many values there are.
func TestFormsByWords(t *testing.T) {
	numbers := []int{-1 << 63, -1 << 32, -65, -1, 0, 1, 2, 8, 9, 63, 64, 65, 66, 1<<32 + 8, 1<<63 - 1}
	ops := []int{-1 << 63, -4, -3, -2, -1, 1<<32 + 1, 256 + 1, 1<<63 - 1}
	for op := range 40 {
		ops = append(ops, op)
	}
	flags := []int{-1 << 63, -1, 0, 1, 2, 3, 4, 5, 6, 7, 8, 9, 12, 1<<32 + 1, 1<<63 - 1}
	args := make([]api.Val, 5)
	for i := range args {
		args[i] = number(1)
	}
	for _, op := range ops {
		for _, typ := range numbers {
			for _, n := range numbers {
				for _, flag := range flags {
					for count := range args {
						checkByWords(t, api.Instr{Op: op, Type: typ, N: n, Flags: flag}, args[:count])
					}
				}
			}
		}
	}
}

// betterThan are the values of a type that refine one.
func betterThan(typ int, other api.Val) []api.Val {
	var list []api.Val
	for _, v := range valuesOf(typ) {
		if refines(v, other) {
			list = append(list, v)
		}
	}
	return list
}

// checkBetter asks of all rows that refine one what comes of them.
func checkBetter(t *testing.T, in api.Instr, other []api.Val) {
	t.Helper()
	was, end := eval.Eval(in, other)
	if end != ends {
		return
	}
	var lists [][]api.Val
	for i, typ := range wantedBy(in) {
		lists = append(lists, betterThan(typ, other[i]))
	}
	rowsOf(func(args []api.Val) {
		v, end := eval.Eval(in, args)
		if end != ends && end != loose || end == ends && !refines(v, was) {
			t.Fatal(in, other, "makes", was, "but", args, v, end)
		}
	}, lists...)
}

// P10.2: of values that refine others comes what refines what came of these; and it is as good as loose, or ends.
func TestBetterStaysBetter(t *testing.T) {
	for _, in := range instrs(1, 2, 3, 64, api.Ptr) {
		var lists [][]api.Val
		for _, typ := range wantedBy(in) {
			lists = append(lists, valuesOf(typ))
		}
		rowsOf(func(args []api.Val) { checkBetter(t, in, args) }, lists...)
	}
}

// P10.1: what an instruction makes is a value of its type, as it would be read again; poison beside every other end.
func TestMadeIsOfType(t *testing.T) {
	r := seeded(102)
	for range 200000 {
		in := r.instr()
		args := r.args(in)
		v, end := eval.Eval(in, args)
		typ := in.Type
		if in.Op >= api.Eq && in.Op <= api.Sle {
			typ = 1
		}
		if end != ends && v != poison || end == ends && readByWords(typ, v) != v {
			t.Fatal(in, args, v, end)
		}
	}
}
