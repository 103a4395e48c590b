package comb_test

import (
	"slices"
	"strings"

	"lathe/api"
	"lathe/bits"
	"lathe/fold"
	"lathe/graph"
	"lathe/ir"
	"lathe/words"
)

// The chapter's table once more, as it is told.

// row is one way in which a rule applies: of which Ops, with which operands, y being made by which Op of which; whether it says no flags; what it asks beside. It makes an operand, or an Op with operands; a dash stands for the same Op.
type row struct {
	rule  int
	ops   string
	args  string
	maker string
	plain bool
	only  func(is *found) bool
	made  string
}

// found is what the letters of a row stand for.
type found struct {
	in, maker api.Instr
	letters   map[string]api.Value
}

func table() []row {
	typeIs1 := func(is *found) bool { return is.in.Type == 1 }
	fromType := func(is *found) bool { return is.maker.N == is.in.Type }
	return []row{
		{2, "add mul and or xor eq ne", "n y", "", false, nil, "- y n"},
		{3, "add sub or xor shl lshr ashr", "x 0", "", false, nil, "x"},
		{3, "mul udiv sdiv", "x 1", "", false, nil, "x"},
		{3, "and", "x all", "", false, nil, "x"},
		{3, "gep", "x 0", "", false, nil, "x"},
		{4, "mul and", "x 0", "", false, nil, "0"},
		{4, "urem srem", "x 1", "", false, nil, "0"},
		{4, "ult", "x 0", "", false, nil, "0"},
		{5, "or", "x all", "", false, nil, "all"},
		{6, "ule", "x all", "", false, nil, "1"},
		{7, "sub xor", "x x", "", false, nil, "0"},
		{7, "ne ult slt", "x x", "", false, nil, "0"},
		{8, "and or", "x x", "", false, nil, "x"},
		{9, "eq ule sle", "x x", "", false, nil, "1"},
		{10, "select", "1 x z", "", false, nil, "x"},
		{10, "select", "0 z x", "", false, nil, "x"},
		{10, "select", "z x x", "", false, nil, "x"},
		{10, "select", "x 1 0", "", false, typeIs1, "x"},
		{11, "freeze", "c", "", false, nil, "c"},
		{11, "freeze", "null", "", false, nil, "null"},
		{11, "freeze", "global", "", false, nil, "global"},
		{11, "freeze", "y", "freeze x", false, nil, "y"},
		{12, "trunc", "y", "zext x", false, fromType, "x"},
		{12, "trunc", "y", "sext x", false, fromType, "x"},
		{13, "sub", "x c", "", true, nil, "add x 0-c"},
		{14, "mul", "x 2^k", "", true, nil, "shl x k"},
		{15, "udiv", "x 2^k", "", false, nil, "lshr x k"},
		{16, "urem", "x 2^k", "", false, nil, "and x c-1"},
		{17, "add mul and or xor", "y c", "- x d", true, nil, "- x d-c"},
		{18, "eq ne", "y c", "add x d", true, nil, "- x c-d"},
		{18, "eq ne", "y c", "xor x d", false, nil, "- x c^d"},
		{19, "zext sext trunc", "y", "- x", false, nil, "- x"},
		{20, "select", "y a b", "xor x 1", false, nil, "- x b a"},
	}
}

// matches holds operands against letters, one by one, and keeps what these stand for.
func (is *found) matches(args []api.Value, letters string) bool {
	pattern := strings.Fields(letters)
	if len(args) != len(pattern) {
		return false
	}
	for i, v := range args {
		if !is.matchesOne(v, pattern[i]) {
			return false
		}
	}
	return true
}

func (is *found) matchesOne(v api.Value, letter string) bool {
	fits := true
	switch letter {
	case "0", "1":
		return v.Kind == 2 && v.Bits == uint64(letter[0]-'0')
	case "all":
		return v.Kind == 2 && v.Bits == bits.Mask(is.in.Type)
	case "2^k":
		_, fits = power(is.in.Type, v.Bits)
		fits, letter = fits && v.Kind == 2, "c"
	case "c", "d":
		fits = v.Kind == 2
	case "n":
		fits = v.Kind != 1
	case "y":
		fits = v.Kind == 1
	case "null":
		fits = v.Kind == 4
	case "global":
		fits = v.Kind == 5
	}
	before, again := is.letters[letter]
	is.letters[letter] = v
	return fits && (!again || before == v)
}

// power is the k of 2^k, from 1 on and below w.
func power(w int, n uint64) (uint64, bool) {
	for k := 1; k < w; k++ {
		if n == uint64(1)<<k {
			return uint64(k), true
		}
	}
	return 0, false
}

// operand is what a letter of what is made stands for.
func (is *found) operand(letter string) api.Value {
	c, d := is.letters["c"].Bits, is.letters["d"].Bits
	switch letter {
	case "0", "1":
		return number(uint64(letter[0] - '0'))
	case "all":
		return number(bits.Mask(is.in.Type))
	case "k":
		k, _ := power(is.in.Type, c)
		return number(k)
	case "0-c":
		return is.sum(api.Sub, 0, c)
	case "c-1":
		return is.sum(api.Sub, c, 1)
	case "c-d":
		return is.sum(api.Sub, c, d)
	case "c^d":
		return is.sum(api.Xor, c, d)
	case "d-c":
		return is.sum(is.in.Op, d, c)
	}
	return is.letters[letter]
}

func (is *found) sum(op int, a, b uint64) api.Value {
	v, end := bits.Apply(op, is.in.Type, 0, a, b)
	if end != 0 {
		panic("no such sum")
	}
	return number(v)
}

// opOf is the operation of a word; that of a dash is the same.
func opOf(word string, same int) int {
	if word == "-" {
		return same
	}
	return words.Op(word)
}

// makes is what a row that applies makes.
func (r row) makes(is *found) (api.Instr, int) {
	made := strings.Fields(r.made)
	if len(made) == 1 {
		return api.Instr{Args: []api.Value{is.operand(made[0])}}, 1
	}
	in := is.in
	in.Op, in.Args = opOf(made[0], in.Op), nil
	for _, letter := range made[1:] {
		in.Args = append(in.Args, is.operand(letter))
	}
	if r.rule == 19 {
		in.N = is.maker.N
	}
	return in, 2
}

// reader reads a function by the table.
type reader struct {
	f     api.Func
	reach []bool
	rows  map[int][]row // of each operation, in order
}

func readerOf(f api.Func) reader {
	w := reader{f, graph.Reach(f), map[int][]row{}}
	for _, r := range table() {
		for word := range strings.FieldsSeq(r.ops) {
			op := words.Op(word)
			w.rows[op] = append(w.rows[op], r)
		}
	}
	return w
}

// applies tells whether a row does, and what its letters stand for.
func (w reader) applies(r row, in api.Instr) (*found, bool) {
	is := &found{in: in, letters: map[string]api.Value{}}
	if !is.matches(in.Args, r.args) || r.plain && in.Flags != 0 {
		return is, false
	}
	if r.maker != "" {
		at, ok := ir.Def(w.f, is.letters["y"].N)
		if !ok {
			return is, false
		}
		is.maker = w.f.Blocks[at.Block].Code[at.At]
		op, args, _ := strings.Cut(r.maker, " ")
		if is.maker.Op != opOf(op, in.Op) || !is.matches(is.maker.Args, args) || r.plain && is.maker.Flags != 0 {
			return is, false
		}
	}
	return is, r.only == nil || r.only(is)
}

// rule is what Rule answers, and the number of the rule that was the first one to apply.
func (w reader) rule(p api.Place) (api.Instr, int, int) {
	if p.Block < 0 || p.Block >= len(w.f.Blocks) || p.At < 0 || p.At >= len(w.f.Blocks[p.Block].Code) {
		return api.Instr{}, 0, 0
	}
	in := w.f.Blocks[p.Block].Code[p.At]
	if !w.reach[p.Block] || !ir.Calm(in.Op) && !slices.Contains([]int{4, 5, 6, 7}, in.Op) {
		return api.Instr{}, 0, 0
	}
	if v, ok := fold.Fold(in); ok {
		return api.Instr{Args: []api.Value{v}}, 1, 1
	}
	for _, r := range w.rows[in.Op] {
		if is, ok := w.applies(r, in); ok {
			made, how := r.makes(is)
			return made, how, r.rule
		}
	}
	return api.Instr{}, 0, 0
}

// step does so with the first instruction to which a rule applies, in the reader's function; 0 is no rule.
func (w *reader) step() int {
	for b, block := range w.f.Blocks {
		for i, in := range block.Code {
			made, how, rule := w.rule(api.Place{Block: b, At: i})
			switch how {
			case 1:
				w.f.Blocks[b].Code = slices.Delete(block.Code, i, i+1)
				w.f = ir.Replace(w.f, in.Reg, made.Args[0])
				return rule
			case 2:
				block.Code[i] = made
				return rule
			}
		}
	}
	return 0
}

// allByWords is what All answers; met counts the rules that were done.
func allByWords(f api.Func, met map[int]int) api.Func {
	w := readerOf(ir.CopyFunc(f))
	for {
		rule := w.step()
		if rule == 0 {
			return w.f
		}
		met[rule]++
	}
}
