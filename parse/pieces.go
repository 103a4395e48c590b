package parse

import (
	"strconv"
	"strings"

	"lathe/api"
)

// reader goes over the pieces of a text from the left, and keeps the first fault.
type reader struct {
	pieces []api.Token // those that are still to be read
	end    api.Token   // what stands behind the last one
	fault  api.Fault
}

// endOf is the text's end, which ends a line as a newline does.
func endOf(text string) api.Token {
	return api.Token{
		Kind: api.TokEnd,
		Line: 1 + strings.Count(text, "\n"),
		Col:  len(text) - strings.LastIndexByte(text, '\n'),
	}
}

// next is the piece that stands there.
func (r *reader) next() api.Token {
	if len(r.pieces) == 0 {
		return r.end
	}
	return r.pieces[0]
}

// pass goes on behind the piece that stands there.
func (r *reader) pass() {
	if len(r.pieces) > 0 {
		r.pieces = r.pieces[1:]
	}
}

// refuse tells a fault at a piece. Nothing is left to be read then, so that every loop ends; what is refused afterwards isn't the first fault any more.
func (r *reader) refuse(code api.Errno, piece api.Token) {
	if r.fault == (api.Fault{}) {
		r.fault = api.Fault{Code: code, Line: piece.Line, Col: piece.Col}
	}
	r.pieces = nil
}

// passed goes on behind this piece, if it stands there.
func (r *reader) passed(kind int, text string) bool {
	piece := r.next()
	if piece.Kind != kind || piece.Text != text {
		return false
	}
	r.pass()
	return true
}

// want reads a piece of that kind, whatever its text.
func (r *reader) want(kind int) api.Token {
	piece := r.next()
	if piece.Kind != kind {
		r.refuse(api.ErrSyntax, piece)
	}
	r.pass()
	return piece
}

func (r *reader) wantMark(text string) {
	if !r.passed(api.TokMark, text) {
		r.refuse(api.ErrSyntax, r.next())
	}
}

func (r *reader) wantWord(text string) {
	if !r.passed(api.TokWord, text) {
		r.refuse(api.ErrSyntax, r.next())
	}
}

func (r *reader) wantLineEnd() {
	r.want(api.TokEnd)
}

// wantBlock reads a block's word.
func (r *reader) wantBlock() int {
	piece := r.next()
	n, ok := blockOf(piece)
	if !ok {
		r.refuse(api.ErrSyntax, piece)
	}
	r.pass()
	return n
}

// wantType reads a type; a word that is none is another fault than what is no word.
func (r *reader) wantType() int {
	piece := r.want(api.TokWord)
	t, ok := typeOf(piece.Text)
	if !ok {
		r.refuse(api.ErrType, piece)
	}
	return t
}

// wantSize reads how many bytes a global or an Alloca is to have.
func (r *reader) wantSize() int {
	piece := r.want(api.TokNum)
	n := numberOf(piece)
	if n == 0 || n > api.MaxBytes {
		r.refuse(api.ErrLimit, piece)
	}
	return int(n)
}

// inBrackets reads what stands in brackets: no item, or items with commas between.
func (r *reader) inBrackets(item func()) {
	r.wantMark("(")
	if r.passed(api.TokMark, ")") {
		return
	}
	r.withCommas(item)
	r.wantMark(")")
}

// withCommas reads one item, and one more behind each comma.
func (r *reader) withCommas(item func()) {
	item()
	for r.passed(api.TokMark, ",") {
		item()
	}
}

// numberOf is the number of a TokNum or a TokReg, whose digits chapter 3 has looked at.
func numberOf(piece api.Token) uint64 {
	n, _ := strconv.ParseUint(piece.Text, 10, 64)
	return n
}

// blockOf is the number of a block's word.
func blockOf(piece api.Token) (int, bool) {
	if piece.Kind != api.TokWord {
		return 0, false
	}
	return numberBehind("b", piece.Text, 999)
}

// typeOf is the type of a type's word.
func typeOf(word string) (int, bool) {
	switch word {
	case "void":
		return api.Void, true
	case "ptr":
		return api.Ptr, true
	}
	bits, ok := numberBehind("i", word, 64)
	return bits, ok && bits > 0
}

// numberBehind is the numeral, of a number up to most, that stands in a word right behind a letter.
func numberBehind(letter, word string, most int) (int, bool) {
	digits, ok := strings.CutPrefix(word, letter)
	n, err := strconv.Atoi(digits)
	// Atoi takes noughts ahead, which no numeral has.
	if !ok || err != nil || n > most || strconv.Itoa(n) != digits {
		return 0, false
	}
	return n, true
}
