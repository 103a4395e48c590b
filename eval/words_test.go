package eval_test

import (
	"math/big"

	"lathe/api"
	"lathe/bits"
)

// The chapter's words once more: who is such an instruction by a list, and the table row by row, as they are told.

const (
	ends      = 0
	undefined = 2
	noSuch    = 3
	loose     = 4
)

var (
	poison = api.Val{}
	some   = api.Val{Kind: 3}
)

// kind is what the chapter tells of an operation: the flags that it may have, its types, and the types that it wants.
type kind struct {
	flags, least, most int
	wants              []int
}

// Types that stand for fields of the instruction.
const (
	own  = -1 // Type
	from = -2 // N
)

var two = []int{own, own}

func kindOf(op int) kind {
	switch op {
	case 1, 2, 3, 11:
		return kind{3, 1, 64, two}
	case 4, 5, 12, 13:
		return kind{4, 1, 64, two}
	case 6, 7, 8, 9, 10, 16, 17, 18, 19:
		return kind{0, 1, 64, two}
	case 14, 15:
		return kind{0, 1, 65, two}
	case 20, 21, 22:
		return kind{0, 1, 64, []int{from}}
	case 23:
		return kind{0, 1, 65, []int{1, own, own}}
	case 24:
		return kind{0, 1, 65, []int{own}}
	case 29:
		return kind{0, 65, 65, []int{65, 64}}
	}
	return kind{0, 1, 0, nil} // no type at all
}

// isSuch tells whether it is such an instruction, of so many values.
func isSuch(in api.Instr, n int) bool {
	k := kindOf(in.Op)
	if in.Flags < 0 || in.Flags|k.flags != k.flags || in.Type < k.least || in.Type > k.most || n != len(k.wants) {
		return false
	}
	switch in.Op {
	case 20, 21:
		return 1 <= in.N && in.N < in.Type
	case 22:
		return in.Type < in.N && in.N <= 64
	}
	return true
}

// readByWords is a value as one of a type.
func readByWords(t int, v api.Val) api.Val {
	switch {
	case t == 65 && v.Kind == 2:
		return api.Val{Kind: 2, Block: v.Block, Off: v.Off}
	case t != 65 && v.Kind == 1:
		power := new(big.Int).Lsh(big.NewInt(1), uint(t))
		return number(new(big.Int).Mod(new(big.Int).SetUint64(v.Bits), power).Uint64())
	case v.Kind == 3:
		return some
	}
	return poison
}

// wantedBy are the types that such an instruction wants.
func wantedBy(in api.Instr) []int {
	var list []int
	for _, want := range kindOf(in.Op).wants {
		switch want {
		case own:
			want = in.Type
		case from:
			want = in.N
		}
		list = append(list, want)
	}
	return list
}

func readAll(in api.Instr, args []api.Val) []api.Val {
	var list []api.Val
	for i, t := range wantedBy(in) {
		list = append(list, readByWords(t, args[i]))
	}
	return list
}

// row is a part of a line of the table: where it applies, the value, and the end.
type row struct {
	applies bool
	v       api.Val
	end     int
}

// evalByWords answers what the chapter says of Eval.
func evalByWords(in api.Instr, args []api.Val) (api.Val, int) {
	if !isSuch(in, len(args)) {
		return poison, noSuch
	}
	var list [3]api.Val
	copy(list[:], readAll(in, args))
	for _, r := range lineOf(in, list[0], list[1], list[2]) {
		if r.applies {
			return r.v, r.end
		}
	}
	panic("no row applies")
}

func lineOf(in api.Instr, a, b, c api.Val) []row {
	switch in.Op {
	case 4, 5, 6, 7:
		return division(in, a, b)
	case 11, 12, 13:
		return shift(in, a, b)
	case 1, 2, 3, 8, 9, 10:
		return sum(in, a, b)
	case 14, 15, 16, 17, 18, 19:
		return comparison(in, a, b)
	case 20, 21, 22:
		return conversion(in, a)
	case 23:
		return choice(a, b, c)
	case 24:
		return []row{{a == poison, some, ends}, {true, a, ends}}
	}
	return address(a, b)
}

func division(in api.Instr, a, b api.Val) []row {
	greatest := number(1<<uint(in.Type) - 1)
	isLeast := (in.Op == 5 || in.Op == 7) && b == greatest
	return []row{
		{b == poison || b == number(0), poison, undefined},
		{b == some, poison, loose},
		{isLeast && a == poison, poison, undefined},
		{isLeast && a == some, poison, loose},
		{a == poison || a == some && in.Flags != 0, poison, ends},
		{a == some, some, ends},
		applyRow(in, a, b),
	}
}

func shift(in api.Instr, a, b api.Val) []row {
	return []row{
		{a == poison || b == poison || b == some || b.Bits >= uint64(in.Type), poison, ends},
		{a == some && in.Flags != 0, poison, ends},
		{a == some, some, ends},
		applyRow(in, a, b),
	}
}

func sum(in api.Instr, a, b api.Val) []row {
	return []row{
		{a == poison || b == poison, poison, ends},
		{(a == some || b == some) && in.Flags != 0, poison, ends},
		{a == some || b == some, some, ends},
		applyRow(in, a, b),
	}
}

func comparison(in api.Instr, a, b api.Val) []row {
	are := a.Block == b.Block && a.Off == b.Off
	return []row{
		{a == poison || b == poison, poison, ends},
		{a == some || b == some, some, ends},
		{in.Type == 65 && (in.Op == 14 && are || in.Op == 15 && !are), number(1), ends},
		{in.Type == 65, number(0), ends},
		applyRow(in, a, b),
	}
}

// applyRow is how chapter 1's Apply ends.
func applyRow(in api.Instr, a, b api.Val) row {
	v, end := bits.Apply(in.Op, in.Type, in.Flags, a.Bits, b.Bits)
	if end == 0 {
		return row{true, number(v), ends}
	}
	if end == 1 {
		return row{true, poison, ends}
	}
	return row{true, poison, undefined}
}

func conversion(in api.Instr, a api.Val) []row {
	v, _ := bits.Convert(in.Op, in.N, in.Type, a.Bits)
	return []row{{a == poison || a == some, a, ends}, {true, number(v), ends}}
}

func choice(a, b, c api.Val) []row {
	return []row{
		{a == poison, poison, ends},
		{a == number(1), b, ends},
		{a == number(0), c, ends},
		{b == c, b, ends},
		{b == poison || c == poison, poison, ends},
		{true, some, ends},
	}
}

func address(a, b api.Val) []row {
	off := new(big.Int).SetUint64(b.Bits)
	if b.Bits >= 1<<63 {
		off.Sub(off, new(big.Int).Lsh(big.NewInt(1), 64))
	}
	off.Add(off, big.NewInt(a.Off))
	// Into 0 to 2^64 - 1, and from there, read with a sign.
	off.Mod(off, new(big.Int).Lsh(big.NewInt(1), 64))
	return []row{
		{a == poison || b == poison, poison, ends},
		{a == some || b == some, some, ends},
		{true, api.Val{Kind: 2, Block: a.Block, Off: int64(off.Uint64())}, ends},
	}
}

// refines tells whether one value refines the other, by the words of P10.2.
func refines(one, other api.Val) bool {
	return other == poison || other == some && one != poison || one == other
}
