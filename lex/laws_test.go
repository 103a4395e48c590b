package lex_test

import (
	"math/big"
	"math/rand"
	"regexp"
	"slices"
	"strings"
	"testing"

	"lathe/api"
	"lathe/lex"
)

// The chapter's table once more, row by row, as patterns.
var table = []struct {
	pattern *regexp.Regexp
	kind    int
}{
	{regexp.MustCompile(`^[\x20\t\r]()`), 0},
	{regexp.MustCompile(`^#[^\n]*()`), 0},
	{regexp.MustCompile(`^\n()`), api.TokEnd},
	{regexp.MustCompile(`^([=,():])`), api.TokMark},
	{regexp.MustCompile(`^([a-z_][a-z0-9_]*)`), api.TokWord},
	{regexp.MustCompile(`^([0-9]+)`), api.TokNum},
	{regexp.MustCompile(`^%([0-9]*)`), api.TokReg},
	{regexp.MustCompile(`^@([a-z_][a-z0-9_]*)`), api.TokAt},
}

var greatest = map[int]*big.Int{
	api.TokNum: new(big.Int).SetUint64(1<<64 - 1),
	api.TokReg: big.NewInt(api.MaxReg),
}

// cutByTable is what the chapter tells of Tokens, for texts of at most MaxText bytes.
func cutByTable(text string) ([]api.Token, api.Fault) {
	var pieces []api.Token
	for at := 0; at < len(text); {
		kind, body, size := rowAt(text[at:])
		piece := api.Token{Kind: kind, Text: body, Line: 1 + strings.Count(text[:at], "\n"), Col: at - strings.LastIndexByte(text[:at], '\n')}
		if size == 0 {
			return nil, api.Fault{Code: api.ErrByte, Line: piece.Line, Col: piece.Col}
		}
		if most, ok := greatest[kind]; ok && !isNumeral(body, most) {
			return nil, api.Fault{Code: api.ErrNumber, Line: piece.Line, Col: piece.Col}
		}
		if kind != 0 {
			pieces = append(pieces, piece)
		}
		at += size
	}
	return pieces, api.Fault{}
}

func rowAt(rest string) (int, string, int) {
	for _, row := range table {
		if m := row.pattern.FindStringSubmatch(rest); m != nil {
			return row.kind, m[1], len(m[0])
		}
	}
	return 0, "", 0
}

func isNumeral(digits string, most *big.Int) bool {
	n, ok := new(big.Int).SetString(digits, 10)
	return ok && n.String() == digits && n.Cmp(most) <= 0
}

// P3.1: the table, of all short texts of bytes that tell the rows apart.
func TestShortTexts(t *testing.T) {
	const letters = "0a_1%@#\n =A"
	texts := []string{""}
	for range 5 {
		longer := []string{}
		for _, text := range texts {
			checkByTable(t, text)
			for _, c := range letters {
				longer = append(longer, text+string(c))
			}
		}
		texts = longer
	}
}

// P3.1: the table, of long texts of parts that lie well or ill beside each other.
func TestLongTexts(t *testing.T) {
	for range 20000 {
		checkByTable(t, anyText(someParts))
	}
	for range 20000 {
		checkByTable(t, anyText(goodParts))
	}
}

func checkByTable(t *testing.T, text string) {
	t.Helper()
	want, fault := cutByTable(text)
	got, told := lex.Tokens(text)
	if !slices.Equal(got, want) || told != fault {
		t.Fatalf("Tokens(%q) = %v, %v; not %v, %v", text, got, told, want, fault)
	}
}

var (
	goodParts = []string{
		" ", "\t", "\r", "\n", "\r\n", " \n", "=", ",", "(", ")", ":", "a", "z", "_", "add", "i64", "b0", "x_9",
		" 0 ", " 7 ", " 18446744073709551615 ", "%0 ", "%4095 ", "%12", "@g", "@_1", "#\n", "# %@A\x80\n", "\n#é#\n",
	}
	badParts  = []string{"%", "@", "00", "%007", "%4096", "18446744073709551616", "A", "-", "\x00", "\x7f", "é", "\xff", "`", "{", "/", ";"}
	someParts = slices.Concat(goodParts, goodParts, goodParts, goodParts, badParts)
	seeded    = rand.New(rand.NewSource(3))
)

func anyText(parts []string) string {
	text := ""
	for range seeded.Intn(24) {
		text += parts[seeded.Intn(len(parts))]
	}
	return text
}

// sizeInText is how many bytes of a text a piece takes.
func sizeInText(piece api.Token) int {
	switch piece.Kind {
	case api.TokEnd, api.TokReg, api.TokAt:
		return len(piece.Text) + 1
	}
	return len(piece.Text)
}

// P3.2: pieces rise, none overlaps another, each stands where it says, and what lies between is passed over.
func TestPiecesStand(t *testing.T) {
	sign := []string{api.TokWord: "", api.TokNum: "", api.TokReg: "%", api.TokAt: "@", api.TokMark: "", api.TokEnd: "\n"}
	between := regexp.MustCompile(`^([ \t\r]|#[^\n]*)*$`)
	cut := 0
	for range 20000 {
		text := anyText(goodParts)
		pieces, fault := lex.Tokens(text)
		if fault != (api.Fault{}) {
			continue
		}
		cut++
		lines := strings.SplitAfter(text, "\n")
		till := 0
		for _, p := range pieces {
			at := p.Col - 1
			for _, line := range lines[:p.Line-1] {
				at += len(line)
			}
			if at < till || !between.MatchString(text[till:at]) || !strings.HasPrefix(lines[p.Line-1][p.Col-1:], sign[p.Kind]+p.Text) {
				t.Fatalf("%q: %v stands wrong", text, p)
			}
			till = at + sizeInText(p)
		}
		if !between.MatchString(text[till:]) {
			t.Fatalf("%q: pieces lack", text)
		}
	}
	if cut < 5000 {
		t.Error("too few texts have pieces:", cut)
	}
}

// P3.2: two texts with a newline between have the pieces of both, the newline between them.
func TestTwoTexts(t *testing.T) {
	joined := 0
	for range 20000 {
		a, b := anyText(goodParts), anyText(goodParts)
		ofA, faultA := lex.Tokens(a)
		ofB, faultB := lex.Tokens(b)
		if faultA != (api.Fault{}) || faultB != (api.Fault{}) {
			continue
		}
		joined++
		line := 1 + strings.Count(a, "\n")
		want := append(ofA, api.Token{Kind: api.TokEnd, Line: line, Col: len(a) - strings.LastIndexByte(a, '\n')})
		for _, p := range ofB {
			p.Line += line
			want = append(want, p)
		}
		got, fault := lex.Tokens(a + "\n" + b)
		if !slices.Equal(got, want) || fault != (api.Fault{}) {
			t.Fatalf("%q, %q: %v, %v; not %v", a, b, got, fault, want)
		}
	}
	if joined < 5000 {
		t.Error("too few pairs have pieces:", joined)
	}
}

// P3.1: Word, against the pieces: a text is a word just where it is one TokWord alone.
func TestWordIsPiece(t *testing.T) {
	for range 20000 {
		text := anyText(someParts)
		pieces, _ := lex.Tokens(text)
		alone := len(pieces) == 1 && pieces[0] == api.Token{Kind: api.TokWord, Text: text, Line: 1, Col: 1}
		if lex.Word(text) != alone {
			t.Fatalf("Word(%q) = %v", text, !alone)
		}
	}
}
