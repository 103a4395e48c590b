package parse_test

import (
	"cmp"
	"math/rand"
	"runtime"
	"slices"
	"strings"
	"testing"
	"unsafe"

	"lathe/api"
	"lathe/ir"
	"lathe/parse"
)

func checkByTable(t *testing.T, text string) (api.Module, api.Fault) {
	t.Helper()
	want, fault := parseByTable(text)
	got, told := parse.Parse(text)
	if told != fault || !ir.Same(got, want) {
		t.Fatalf("Parse(%q) = %v, %v; not %v, %v", text, got, told, want, fault)
	}
	return got, told
}

// Pieces of every kind; the first ones are gone on with.
var (
	goodPieces = strings.Fields(`%1 7 i8 b0 f nsw nuw exact to global extern func = , ( ) :
		add eq zext select freeze phi alloca load store gep call br brif ret halt`)
	allPieces = slices.Concat(goodPieces, operations, strings.Fields(`%0 %4095 0 64 65 18446744073709551615
		@g @k @x @f @i8 @b1 @nsw @to @null @add @global @end i0 i64 i65 void ptr b1 b2 b999 b1000 b00 g x y end poison null`))
)

// P4.1: behind each beginning of a line each piece: those that the grammar has there, and all others.
func TestEachPiece(t *testing.T) {
	eachPiece(t, "global g 8\nextern x(i8) i9\nfunc f(i8) i8\nb0:\nb1:\n", "\nend\nfunc y() i7\nb0:\nend", 13)
	eachPiece(t, "global k 1\nextern z() i9\n", "\nglobal g 1\nextern y() i7", 13)
	eachPiece(t, "global g 1\nfunc f() i8\n", "\nb0:\nend", 3)
}

func eachPiece(t *testing.T, ahead, behind string, most int) {
	beginnings, tried := []string{""}, 0
	for range most {
		var longer []string
		for _, beginning := range beginnings {
			for i, piece := range allPieces {
				line := beginning + piece + " "
				_, fault := checkByTable(t, ahead+line+behind)
				tried++
				lineHas := fault.Line != 1+strings.Count(ahead, "\n") || fault.Col > len(line)
				if i < len(goodPieces) && lineHas && !isOddName(beginning, piece) {
					longer = append(longer, line)
				}
			}
		}
		beginnings = longer
	}
	if tried < 100 {
		t.Error("too few lines:", tried)
	}
}

// isOddName: any word may be a name, but one is enough to go on with.
func isOddName(beginning, piece string) bool {
	for _, front := range []string{"global ", "extern ", "func ", "call "} {
		if strings.HasSuffix(beginning, front) {
			return piece != "f"
		}
	}
	return false
}

// P4.1: programs that are mostly right, and such with something wrong.
func TestAnyPrograms(t *testing.T) {
	r := maker{rand.New(rand.NewSource(4))}
	met := map[api.Errno]int{}
	for range 6000 {
		lines := r.program(10)
		_, fault := checkByTable(t, plain(lines))
		met[fault.Code]++
		for range 1 + r.Intn(2) {
			lines = r.spoil(lines)
		}
		_, fault = checkByTable(t, strings.TrimRight(plain(lines), r.oneOf("\n", ";")))
		met[fault.Code]++
	}
	for range 20 {
		checkByTable(t, plain(r.program(420)))
	}
	for _, code := range []api.Errno{api.OK, api.ErrSyntax, api.ErrName, api.ErrTwice, api.ErrLimit, api.ErrType, api.ErrBlock} {
		if met[code] < 50 {
			t.Error("too few programs with", code, "are met:", met[code])
		}
	}
}

// P4.2: remarks, blanks between pieces and empty lines change no module.
func TestBlanks(t *testing.T) {
	r := maker{rand.New(rand.NewSource(5))}
	read := 0
	for range 3000 {
		lines := r.program(10)
		want, fault := parse.Parse(plain(lines))
		if fault == (api.Fault{}) {
			read++
			checkModule(t, r.loose(lines), want)
		}
	}
	if read < 1000 {
		t.Error("too few programs are read:", read)
	}
}

// P4.2: blocks' words below 1000, registers at most MaxReg.
func TestBounds(t *testing.T) {
	r := maker{rand.New(rand.NewSource(6))}
	for range 3000 {
		m, _ := parse.Parse(plain(r.program(10)))
		for _, f := range m.Funcs {
			for _, b := range f.Blocks {
				for _, in := range b.Code {
					checkBounds(t, in)
				}
			}
		}
	}
}

func checkBounds(t *testing.T, in api.Instr) {
	t.Helper()
	if in.Reg < -1 || in.Reg > api.MaxReg {
		t.Error("register", in.Reg)
	}
	for _, v := range in.Args {
		if v.Kind == api.Reg && (v.N < 0 || v.N > api.MaxReg) {
			t.Error("operand", v)
		}
	}
	for _, to := range in.To {
		if to < 0 || to > 999 {
			t.Error("block", to)
		}
	}
}

// P4.1: no two lists of answers share memory, spare room too.
func TestListsApart(t *testing.T) {
	r := maker{rand.New(rand.NewSource(7))}
	for range 1000 {
		text := plain(r.program(10))
		a, _ := parse.Parse(text)
		b, _ := parse.Parse(text)
		met := append(spans(a), spans(b)...)
		slices.SortFunc(met, func(x, y span) int { return cmp.Compare(x.from, y.from) })
		for i := 1; i < len(met); i++ {
			if met[i].from < met[i-1].to {
				t.Fatalf("lists of %q share memory", text)
			}
		}
		runtime.KeepAlive(a)
		runtime.KeepAlive(b)
	}
}

// span is the memory that a list has.
type span struct{ from, to uintptr }

func spanOf[T any](list []T) span {
	var one T
	from := uintptr(unsafe.Pointer(unsafe.SliceData(list)))
	return span{from, from + uintptr(cap(list))*unsafe.Sizeof(one)}
}

// spans are those of all lists that have memory.
func spans(m api.Module) []span {
	met := []span{spanOf(m.Vars), spanOf(m.Externs), spanOf(m.Funcs)}
	for _, x := range m.Externs {
		met = append(met, spanOf(x.Params))
	}
	for _, f := range m.Funcs {
		met = append(met, spanOf(f.Params), spanOf(f.Blocks))
		for _, b := range f.Blocks {
			met = append(met, spanOf(b.Code))
			for _, in := range b.Code {
				met = append(met, spanOf(in.Args), spanOf(in.To))
			}
		}
	}
	return slices.DeleteFunc(met, func(s span) bool { return s.from == s.to })
}

// P4.1: neither the text nor an answer is kept.
func TestNothingKept(t *testing.T) {
	const text = "global g 8\nextern x(i8, ptr) i8\nfunc f(i8) i8\nb0:\n%1 = call x(%0, @g)\nbrif %1, b0, b1\nb1:\nret i8 %1\nend\n"
	want, _ := parse.Parse(text)
	store := []byte(text)
	got, fault := parse.Parse(unsafe.String(unsafe.SliceData(store), len(store)))
	copy(store, strings.Repeat("z", len(store)))
	if !ir.Same(got, want) || fault != (api.Fault{}) {
		t.Error("the text is kept:", got)
	}
	got.Vars[0], got.Externs[0].Params[0], got.Funcs[0].Params[0] = api.Var{}, 99, 99
	code := got.Funcs[0].Blocks[0].Code
	code[0].Args[0], code[1].To[0], code[1] = api.Value{}, 99, api.Instr{}
	checkModule(t, text, want)
}
