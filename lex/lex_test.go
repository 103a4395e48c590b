package lex_test

import (
	"slices"
	"strings"
	"testing"
	"unsafe"

	"lathe/api"
	"lathe/lex"
)

const (
	word = api.TokWord
	num  = api.TokNum
	reg  = api.TokReg
	name = api.TokAt
	mark = api.TokMark
	end  = api.TokEnd
)

func checkPieces(t *testing.T, text string, want ...api.Token) {
	t.Helper()
	got, fault := lex.Tokens(text)
	if !slices.Equal(got, want) || fault != (api.Fault{}) {
		t.Errorf("Tokens(%q) = %v, %v; not %v", text, got, fault, want)
	}
}

func checkFault(t *testing.T, text string, code api.Errno, line, col int) {
	t.Helper()
	got, fault := lex.Tokens(text)
	if want := (api.Fault{Code: code, Line: line, Col: col}); len(got) != 0 || fault != want {
		t.Errorf("Tokens(%q) = %v, %v; not %v", text, got, fault, want)
	}
}

// P3.1: the chapter's examples.
func TestExamples(t *testing.T) {
	checkPieces(t, "%3 = add i8 %1, 7",
		api.Token{Kind: reg, Text: "3", Line: 1, Col: 1},
		api.Token{Kind: mark, Text: "=", Line: 1, Col: 4},
		api.Token{Kind: word, Text: "add", Line: 1, Col: 6},
		api.Token{Kind: word, Text: "i8", Line: 1, Col: 10},
		api.Token{Kind: reg, Text: "1", Line: 1, Col: 13},
		api.Token{Kind: mark, Text: ",", Line: 1, Col: 15},
		api.Token{Kind: num, Text: "7", Line: 1, Col: 17})
	checkPieces(t, "a#b\n@x",
		api.Token{Kind: word, Text: "a", Line: 1, Col: 1},
		api.Token{Kind: end, Line: 1, Col: 4},
		api.Token{Kind: name, Text: "x", Line: 2, Col: 1})
	checkPieces(t, "12a",
		api.Token{Kind: num, Text: "12", Line: 1, Col: 1},
		api.Token{Kind: word, Text: "a", Line: 1, Col: 3})
	for _, text := range []string{"007", "%", "%01", "%4096", "18446744073709551616"} {
		checkFault(t, text, api.ErrNumber, 1, 1)
	}
	checkFault(t, "@1", api.ErrByte, 1, 1)
	checkFault(t, "a-b", api.ErrByte, 1, 2)
}

// P3.1: each byte of the table, and each of the others, alone.
func TestEachByte(t *testing.T) {
	for b := range 256 {
		text := string([]byte{byte(b)})
		switch {
		case strings.Contains(" \t\r#", text):
			checkPieces(t, text)
		case text == "\n":
			checkPieces(t, text, api.Token{Kind: end, Line: 1, Col: 1})
		case strings.Contains("=,():", text):
			checkPieces(t, text, api.Token{Kind: mark, Text: text, Line: 1, Col: 1})
		case strings.Contains("abcdefghijklmnopqrstuvwxyz_", text):
			checkPieces(t, text, api.Token{Kind: word, Text: text, Line: 1, Col: 1})
		case strings.Contains("0123456789", text):
			checkPieces(t, text, api.Token{Kind: num, Text: text, Line: 1, Col: 1})
		case text == "%":
			checkFault(t, text, api.ErrNumber, 1, 1)
		default:
			checkFault(t, text, api.ErrByte, 1, 1)
		}
	}
}

// P3.1: each byte in a remark is passed over, up to the newline.
func TestRemarks(t *testing.T) {
	for b := range 256 {
		if b != '\n' {
			checkPieces(t, " #"+string([]byte{byte(b)})+"x%\n7",
				api.Token{Kind: end, Line: 1, Col: 6},
				api.Token{Kind: num, Text: "7", Line: 2, Col: 1})
		}
	}
	checkPieces(t, "")
	checkPieces(t, "# only\r")
	checkPieces(t, "7#", api.Token{Kind: num, Text: "7", Line: 1, Col: 1})
	checkPieces(t, "#a\n#b\n",
		api.Token{Kind: end, Line: 1, Col: 3},
		api.Token{Kind: end, Line: 2, Col: 3})
}

// P3.1: lines end with their newlines, and every byte is a column.
func TestPlaces(t *testing.T) {
	checkPieces(t, "\n\n \t\ra\r\n(", []api.Token{
		{Kind: end, Line: 1, Col: 1},
		{Kind: end, Line: 2, Col: 1},
		{Kind: word, Text: "a", Line: 3, Col: 4},
		{Kind: end, Line: 3, Col: 6},
		{Kind: mark, Text: "(", Line: 4, Col: 1},
	}...)
	checkFault(t, "a\n#é\n\t %", api.ErrNumber, 3, 3)
	checkFault(t, "a\nb é", api.ErrByte, 2, 3)
}

// P3.1: the longest word, all digits; what lies behind is a piece of its own.
func TestLongest(t *testing.T) {
	checkPieces(t, "_a0_9z%12b@c_3)45", []api.Token{
		{Kind: word, Text: "_a0_9z", Line: 1, Col: 1},
		{Kind: reg, Text: "12", Line: 1, Col: 7},
		{Kind: word, Text: "b", Line: 1, Col: 10},
		{Kind: name, Text: "c_3", Line: 1, Col: 11},
		{Kind: mark, Text: ")", Line: 1, Col: 15},
		{Kind: num, Text: "45", Line: 1, Col: 16},
	}...)
	checkPieces(t, "@_@a%0%4095",
		api.Token{Kind: name, Text: "_", Line: 1, Col: 1},
		api.Token{Kind: name, Text: "a", Line: 1, Col: 3},
		api.Token{Kind: reg, Text: "0", Line: 1, Col: 5},
		api.Token{Kind: reg, Text: "4095", Line: 1, Col: 7})
	long := strings.Repeat("z", api.MaxText-1)
	checkPieces(t, "@"+long, api.Token{Kind: name, Text: long, Line: 1, Col: 1})
}

// P3.1: numerals, and their greatest.
func TestNumerals(t *testing.T) {
	for _, good := range []string{"0", "9", "10", "90", "4095", "4096", "18446744073709551615"} {
		checkPieces(t, good, api.Token{Kind: num, Text: good, Line: 1, Col: 1})
	}
	for _, good := range []string{"0", "9", "10", "4095"} {
		checkPieces(t, "%"+good, api.Token{Kind: reg, Text: good, Line: 1, Col: 1})
	}
	noughts := strings.Repeat("0", api.MaxText-3)
	for _, bad := range []string{"00", "01", "00x", "18446744073709551616", "99999999999999999999", "18446744073709551617x", noughts, "1" + noughts} {
		checkFault(t, bad, api.ErrNumber, 1, 1)
		checkFault(t, " %"+bad, api.ErrNumber, 1, 2)
	}
	for _, bad := range []string{"", " 1", "x", "%1", "04095", "4096", "18446744073709551615"} {
		checkFault(t, "%"+bad, api.ErrNumber, 1, 1)
	}
}

// P3.1: behind an @ stands a word, at once.
func TestNoWord(t *testing.T) {
	for _, bad := range []string{"", " a", "1a", "@a", "%1", "A", "\n", "#", "é"} {
		checkFault(t, "x @"+bad, api.ErrByte, 1, 3)
	}
}

// P3.1: the first fault from the left is told, and no piece.
func TestFirstFault(t *testing.T) {
	checkFault(t, "a 00 A", api.ErrNumber, 1, 3)
	checkFault(t, "a A 00", api.ErrByte, 1, 3)
	checkFault(t, "%@", api.ErrNumber, 1, 1)
	checkFault(t, "@%", api.ErrByte, 1, 1)
	checkFault(t, "# A\n%1 %5000 A", api.ErrNumber, 2, 4)
}

// P3.1: MaxText bytes are read; with one more nothing else is told.
func TestLimit(t *testing.T) {
	checkPieces(t, strings.Repeat(" ", api.MaxText))
	checkPieces(t, strings.Repeat("#", api.MaxText))
	checkPieces(t, strings.Repeat(" ", api.MaxText-1)+":", api.Token{Kind: mark, Text: ":", Line: 1, Col: api.MaxText})
	checkPieces(t, strings.Repeat("\r", api.MaxText-2)+"\n8",
		api.Token{Kind: end, Line: 1, Col: api.MaxText - 1},
		api.Token{Kind: num, Text: "8", Line: 2, Col: 1})
	lines, fault := lex.Tokens(strings.Repeat("\n", api.MaxText))
	last := api.Token{Kind: end, Line: api.MaxText, Col: 1}
	if len(lines) != api.MaxText || lines[len(lines)-1] != last || fault != (api.Fault{}) {
		t.Error(len(lines), fault)
	}
	for _, fill := range []string{" ", "#", "\n", "a", "0", "A", "%", "\x80"} {
		checkFault(t, strings.Repeat(fill, api.MaxText+1), api.ErrLimit, 0, 0)
	}
	checkFault(t, "00"+strings.Repeat(" ", api.MaxText), api.ErrLimit, 0, 0)
	checkFault(t, strings.Repeat(" ", api.MaxText-1)+"A", api.ErrByte, 1, api.MaxText)
}

// P3.1: words.
func TestWord(t *testing.T) {
	for _, good := range []string{"a", "z", "_", "__", "i8", "a_9z0", "_0", strings.Repeat("x", 1<<17)} {
		if !lex.Word(good) {
			t.Errorf("Word(%q)", good)
		}
	}
	for _, bad := range []string{"", "0", "9a", "A", "aA", "a b", " a", "a ", "a\n", "a-b", "é", "aé", "a\x00", "a\x80", "@a", "%1", "`", "{", "a`", "a{", "a/", "a:", "\xff"} {
		if lex.Word(bad) {
			t.Errorf("Word(%q)", bad)
		}
	}
	for b := range 256 {
		text := string([]byte{byte(b)})
		front := strings.Contains("abcdefghijklmnopqrstuvwxyz_", text)
		if lex.Word(text) != front || lex.Word("a"+text) != (front || strings.Contains("0123456789", text)) {
			t.Errorf("Word of %q", text)
		}
	}
}

// P3.1: neither the text nor an earlier answer is shared with an answer.
func TestNewMemory(t *testing.T) {
	const text = "func f(i8) @g %12 345 # end\n"
	want, _ := lex.Tokens(text)
	store := []byte(text)
	handed := unsafe.String(unsafe.SliceData(store), len(store))
	got, fault := lex.Tokens(handed)
	copy(store, strings.Repeat("x", len(store)))
	if !slices.Equal(got, want) || fault != (api.Fault{}) {
		t.Error("the text is kept:", got)
	}
	for i := range got {
		got[i] = api.Token{}
	}
	_ = append(got[:0], make([]api.Token, cap(got))...)
	if again, _ := lex.Tokens(text); !slices.Equal(again, want) {
		t.Error("an answer is kept:", again)
	}
}
