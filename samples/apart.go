package samples

import "lathe/api"

// Shares tells whether any two lists of the functions, all of them together, share memory, spare room too. It overwrites all of them.
func Shares(all ...api.Func) bool {
	var numbers [][]int
	var values [][]api.Value
	var codes [][]api.Instr
	var blocks [][]api.Block
	for _, f := range all {
		numbers, blocks = append(numbers, f.Params), append(blocks, f.Blocks)
		for _, b := range f.Blocks[:cap(f.Blocks)] {
			codes = append(codes, b.Code)
			for _, in := range b.Code[:cap(b.Code)] {
				numbers, values = append(numbers, in.To), append(values, in.Args)
			}
		}
	}
	return Meet(numbers, func(n int) int { return n }, func(n int) int { return n }) ||
		Meet(values, func(n int) api.Value { return api.Value{N: n} }, func(v api.Value) int { return v.N }) ||
		Meet(codes, func(n int) api.Instr { return api.Instr{N: n} }, func(in api.Instr) int { return in.N }) ||
		Meet(blocks, func(n int) api.Block { return api.Block{Code: make([]api.Instr, n)} }, func(b api.Block) int { return len(b.Code) })
}

// Meet tells whether two of the lists share memory: it lays in each one's elements the number of the list, and looks whether all stay.
func Meet[T any](lists [][]T, of func(n int) T, number func(T) int) bool {
	for n, list := range lists {
		list = list[:cap(list)]
		for i := range list {
			list[i] = of(n)
		}
	}
	for n, list := range lists {
		for _, element := range list[:cap(list)] {
			if number(element) != n {
				return true
			}
		}
	}
	return false
}
