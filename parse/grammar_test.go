package parse_test

import (
	"cmp"
	"regexp"
	"slices"
	"strconv"
	"strings"

	"lathe/api"
	"lathe/lex"
)

// The chapter's grammar once more, a pattern a line. Great letters are the chapter's, OP|.. is one of these words, [ ] once or not at all, { } any number of times.
var (
	outside = patterns(`
		global NAME NUM
		extern NAME ( [ T { , T } ] ) T
		func NAME ( [ T { , T } ] ) T`)
	inside = patterns(`
		end
		B :
		REG = add|sub|mul|udiv|sdiv|urem|srem|and|or|xor|shl|lshr|ashr [ nsw ] [ nuw ] [ exact ] T V , V
		REG = eq|ne|ult|ule|slt|sle T V , V
		REG = zext|sext|trunc T V to T
		REG = select T V , V , V
		REG = freeze T V
		REG = phi T [ B V { , B V } ]
		REG = alloca NUM
		REG = load T V
		store T V , V
		REG = gep V , V
		[ REG = ] call NAME ( [ V { , V } ] )
		br B
		brif V , B , B
		ret [ T V ]
		halt`)
	// In the order of their numbers.
	operations = strings.Fields("add sub mul udiv sdiv urem srem and or xor shl lshr ashr eq ne ult ule slt sle zext sext trunc select freeze phi alloca load store gep call br brif ret halt")

	blockWord = regexp.MustCompile(`^b(0|[1-9][0-9]?[0-9]?)$`)
	typeWord  = regexp.MustCompile(`^(void|ptr|i([1-9]|[1-5][0-9]|6[0-4]))$`)
)

func patterns(text string) [][]string {
	var all [][]string
	for line := range strings.Lines(strings.TrimSpace(text)) {
		all = append(all, strings.Fields(line))
	}
	return all
}

// fits tells whether a piece is what stands in a pattern.
func fits(part string, piece api.Token) bool {
	switch part {
	case "NAME":
		return piece.Kind == api.TokWord
	case "NUM":
		return piece.Kind == api.TokNum
	case "REG":
		return piece.Kind == api.TokReg
	case "T":
		return piece.Kind == api.TokWord && typeWord.MatchString(piece.Text)
	case "B":
		return piece.Kind == api.TokWord && blockWord.MatchString(piece.Text)
	case "V":
		return slices.Contains([]int{api.TokReg, api.TokNum, api.TokAt}, piece.Kind) || fits("poison|null", piece)
	}
	return (piece.Kind == api.TokWord || piece.Kind == api.TokMark) && slices.Contains(strings.Split(part, "|"), piece.Text)
}

// matching holds a line against patterns, in every way that they allow.
type matching struct {
	line  []api.Token
	taken []string // what the pieces are taken for, as far as some pattern has them
	typed bool     // whether behind these some pattern has a type
}

// try goes on with a pattern behind the pieces that are taken for these parts.
func (m *matching) try(pattern, parts []string) bool {
	if len(pattern) > 0 && (pattern[0] == "[" || pattern[0] == "{") {
		inner, behind := cutBrackets(pattern)
		again := behind
		if pattern[0] == "{" {
			again = pattern
		}
		return m.try(slices.Concat(inner, again), parts) || m.try(behind, parts)
	}
	if len(parts) > len(m.taken) {
		m.taken, m.typed = slices.Clone(parts), false
	}
	if len(pattern) == 0 {
		return len(parts) == len(m.line)
	}
	if len(parts) == len(m.taken) && pattern[0] == "T" {
		m.typed = true
	}
	if len(parts) == len(m.line) || !fits(pattern[0], m.line[len(parts)]) {
		return false
	}
	return m.try(pattern[1:], append(parts, pattern[0]))
}

// cutBrackets is what stands in the brackets with which a pattern begins, and what behind them.
func cutBrackets(pattern []string) ([]string, []string) {
	depth := 0
	for i, part := range pattern {
		switch part {
		case "[", "{":
			depth++
		case "]", "}":
			depth--
		}
		if depth == 0 {
			return pattern[1:i], pattern[i+1:]
		}
	}
	panic("a bracket is open")
}

// Of several faults at one place the first in this order is told; that of a line's front beyond MaxCode is ahead, as the chapter says.
const (
	ofFront = iota
	ofGrammar
	ofLimit
	ofTwice
	ofBlock
)

type found struct {
	piece api.Token
	rank  int
	code  api.Errno
}

// finder collects all faults of a text that it knows of, and the module line by line.
type finder struct {
	known   api.Module // what names are asked in
	module  api.Module
	faults  []found
	unnamed []api.Token
	inFunc  bool
	size    int // how many instructions the function has
}

// parseByTable is what the chapter tells of Parse.
func parseByTable(text string) (api.Module, api.Fault) {
	pieces, fault := lex.Tokens(text)
	if fault != (api.Fault{}) {
		return api.Module{}, fault
	}
	lines := strings.Split(text, "\n")
	pieces = append(pieces, api.Token{Kind: api.TokEnd, Line: len(lines), Col: 1 + len(lines[len(lines)-1])})
	// Only a second round knows the names that are told behind.
	first := &finder{}
	first.lines(pieces)
	f := &finder{known: first.module}
	f.lines(pieces)
	if len(f.faults) == 0 && len(f.unnamed) == 0 {
		return f.module, api.Fault{}
	}
	if len(f.faults) == 0 {
		f.fault(f.unnamed[0], 0, api.ErrName)
	}
	told := slices.MinFunc(f.faults, func(a, b found) int {
		return cmp.Or(cmp.Compare(a.piece.Line, b.piece.Line), cmp.Compare(a.piece.Col, b.piece.Col), cmp.Compare(a.rank, b.rank))
	})
	return api.Module{}, api.Fault{Code: told.code, Line: told.piece.Line, Col: told.piece.Col}
}

func (f *finder) fault(piece api.Token, rank int, code api.Errno) {
	f.faults = append(f.faults, found{piece, rank, code})
}

func (f *finder) lines(pieces []api.Token) {
	for len(pieces) > 0 {
		end := slices.IndexFunc(pieces, func(p api.Token) bool { return p.Kind == api.TokEnd })
		if end > 0 {
			f.line(pieces[:end], pieces[end])
		}
		if end == len(pieces)-1 && f.inFunc {
			f.fault(pieces[end], ofGrammar, api.ErrSyntax)
		}
		pieces = pieces[end+1:]
	}
}

func (f *finder) line(line []api.Token, end api.Token) {
	all := outside
	if f.inFunc {
		all = inside
		f.front(line[0])
	}
	m := &matching{line: line}
	whole := slices.ContainsFunc(all, func(pattern []string) bool { return m.try(pattern, nil) })
	lacks := append(slices.Clone(line), end)[len(m.taken)]
	switch {
	case whole:
	case m.typed && lacks.Kind == api.TokWord:
		f.fault(lacks, ofGrammar, api.ErrType)
	default:
		f.fault(lacks, ofGrammar, api.ErrSyntax)
	}
	f.limits(line, m.taken)
	if whole && len(f.faults) == 0 {
		f.build(line, m.taken)
	}
}

// front finds the faults that a line of a function has by its first piece alone.
func (f *finder) front(piece api.Token) {
	blocks := len(f.last().Blocks)
	switch {
	case fits("B", piece):
		if blocks == api.MaxBlocks {
			f.fault(piece, ofLimit, api.ErrLimit)
		}
		if piece.Text != "b"+strconv.Itoa(blocks) {
			f.fault(piece, ofBlock, api.ErrBlock)
		}
	case blocks == 0:
		f.fault(piece, ofGrammar, api.ErrSyntax)
	case !fits("end", piece):
		f.size++
		if f.size > api.MaxCode {
			f.fault(piece, ofFront, api.ErrLimit)
		}
	}
}

// limits finds the faults of pieces that the grammar has there.
func (f *finder) limits(line []api.Token, taken []string) {
	params := 0
	for i, part := range taken {
		switch {
		case part == "NUM":
			if n, err := strconv.Atoi(line[i].Text); err != nil || n < 1 || n > api.MaxBytes {
				f.fault(line[i], ofLimit, api.ErrLimit)
			}
		case part == "NAME" && !f.inFunc:
			if f.full(taken[0]) {
				f.fault(line[i], ofLimit, api.ErrLimit)
			}
			if slices.Contains(names(f.module, taken[0] == "global"), line[i].Text) {
				f.fault(line[i], ofTwice, api.ErrTwice)
			}
		case part == "T" && !f.inFunc && taken[i-1] != ")":
			if params++; params > api.MaxParams {
				f.fault(line[i], ofLimit, api.ErrLimit)
			}
		}
	}
}

func (f *finder) full(front string) bool {
	switch front {
	case "global":
		return len(f.module.Vars) == api.MaxVars
	case "extern":
		return len(f.module.Externs) == api.MaxExt
	}
	return len(f.module.Funcs) == api.MaxFuncs
}

func (f *finder) last() *api.Func {
	return &f.module.Funcs[len(f.module.Funcs)-1]
}

// names are those of globals, or those of externs and functions, in this order.
func names(m api.Module, ofVars bool) []string {
	var all []string
	if ofVars {
		for _, v := range m.Vars {
			all = append(all, v.Name)
		}
		return all
	}
	for _, x := range m.Externs {
		all = append(all, x.Name)
	}
	for _, f := range m.Funcs {
		all = append(all, f.Name)
	}
	return all
}

// build lays what a line without a fault tells to the module.
func (f *finder) build(line []api.Token, taken []string) {
	in, types := f.instruction(line, taken)
	m := &f.module
	switch taken[0] {
	case "global":
		m.Vars = append(m.Vars, api.Var{Name: line[1].Text, Size: in.N})
	case "extern":
		m.Externs = append(m.Externs, api.Extern{Name: line[1].Text, Params: types[:len(types)-1], Ret: types[len(types)-1]})
	case "func":
		m.Funcs = append(m.Funcs, api.Func{Name: line[1].Text, Params: types[:len(types)-1], Ret: types[len(types)-1]})
		f.inFunc, f.size = true, 0
	case "end":
		f.inFunc = false
	case "B":
		f.last().Blocks = append(f.last().Blocks, api.Block{})
	default:
		b := &f.last().Blocks[len(f.last().Blocks)-1]
		b.Code = append(b.Code, in)
	}
}

// instruction is the one of a line, and the types that stand in it.
func (f *finder) instruction(line []api.Token, taken []string) (api.Instr, []int) {
	in, types := api.Instr{Reg: -1}, []int{}
	for i, part := range taken {
		text := line[i].Text
		n, _ := strconv.Atoi(strings.TrimLeft(text, "bi"))
		switch part {
		case "T":
			types = append(types, map[string]int{"void": api.Void, "ptr": api.Ptr}[text]+n)
		case "B":
			in.To = append(in.To, n)
		case "V":
			in.Args = append(in.Args, f.operand(line[i]))
		case "NUM":
			in.N = n
		case "REG":
			in.Reg = n
		case "nsw", "nuw", "exact":
			in.Flags |= map[string]int{"nsw": api.Nsw, "nuw": api.Nuw, "exact": api.Exact}[text]
		case "NAME":
			if f.inFunc {
				in.N, in.Type = f.callee(line[i])
			}
		default:
			in.Op = max(in.Op, 1+slices.Index(operations, text))
		}
	}
	switch {
	case in.Op == api.Alloca || in.Op == api.Gep:
		in.Type = api.Ptr
	case len(types) > 0:
		in.Type = types[len(types)-1]
	}
	if len(types) > 1 {
		in.N = types[0]
	}
	return in, types
}

func (f *finder) operand(piece api.Token) api.Value {
	bits, _ := strconv.ParseUint(piece.Text, 10, 64)
	switch piece.Kind {
	case api.TokReg:
		return reg(int(bits))
	case api.TokNum:
		return number(bits)
	case api.TokWord:
		return api.Value{Kind: map[string]int{"poison": api.Poison, "null": api.Null}[piece.Text]}
	}
	return global(f.find(piece, true))
}

func (f *finder) find(piece api.Token, ofVars bool) int {
	n := slices.Index(names(f.known, ofVars), piece.Text)
	if n < 0 {
		f.unnamed = append(f.unnamed, piece)
	}
	return n
}

// callee is the number of what a call calls, and what that answers.
func (f *finder) callee(piece api.Token) (int, int) {
	n, externs := f.find(piece, false), len(f.known.Externs)
	switch {
	case n < 0:
		return 0, 0
	case n < externs:
		return -1 - n, f.known.Externs[n].Ret
	}
	return n - externs, f.known.Funcs[n-externs].Ret
}
