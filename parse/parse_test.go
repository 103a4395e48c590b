package parse_test

import (
	"strconv"
	"strings"
	"testing"

	"lathe/api"
	"lathe/ir"
	"lathe/parse"
)

func reg(n int) api.Value       { return api.Value{Kind: api.Reg, N: n} }
func number(b uint64) api.Value { return api.Value{Kind: api.Const, Bits: b} }
func global(n int) api.Value    { return api.Value{Kind: api.Global, N: n} }

func checkModule(t *testing.T, text string, want api.Module) {
	t.Helper()
	got, fault := parse.Parse(text)
	if !ir.Same(got, want) || fault != (api.Fault{}) {
		t.Errorf("Parse(%q) = %v, %v; not %v", text, got, fault, want)
	}
}

func checkFault(t *testing.T, text string, code api.Errno, line, col int) {
	t.Helper()
	got, fault := parse.Parse(text)
	if want := (api.Fault{Code: code, Line: line, Col: col}); !ir.Same(got, api.Module{}) || fault != want {
		t.Errorf("Parse(%.60q) = %v, %v; not %v", text, got, fault, want)
	}
}

// checkLineFault: the fault of a line in a function, as its second block's first instruction; the line is line 4.
func checkLineFault(t *testing.T, line string, code api.Errno, col int) {
	t.Helper()
	checkFault(t, "func f(i8) i8\nb0:\nb1:\n"+line+"\nend", code, 4, col)
}

func repeat(n int, line func(i int) string) string {
	var text strings.Builder
	for i := range n {
		text.WriteString(line(i) + "\n")
	}
	return text.String()
}

// P4.1: the chapter's examples.
func TestExamples(t *testing.T) {
	checkModule(t, "global g 8\nfunc f(i8) i8\nb0:\n%1 = add nsw i8 %0, 3\nstore i8 %1, @g\nret i8 %1\nend", api.Module{
		Vars: []api.Var{{Name: "g", Size: 8}},
		Funcs: []api.Func{{Name: "f", Params: []int{8}, Ret: 8, Blocks: []api.Block{{Code: []api.Instr{
			{Op: api.Add, Reg: 1, Type: 8, Flags: api.Nsw, Args: []api.Value{reg(0), number(3)}},
			{Op: api.Store, Reg: -1, Type: 8, Args: []api.Value{reg(1), global(0)}},
			{Op: api.Ret, Reg: -1, Type: 8, Args: []api.Value{reg(1)}},
		}}}}},
	})
	checkFault(t, "global g", api.ErrSyntax, 1, 9)
	checkFault(t, "global g 65", api.ErrLimit, 1, 10)
	checkFault(t, "func f() i9x", api.ErrType, 1, 10)
	checkFault(t, "func f() void", api.ErrSyntax, 1, 14)
	checkLineFault(t, "%1 = br b0", api.ErrSyntax, 6)
	checkLineFault(t, "add i8 1, 2", api.ErrSyntax, 1)
	checkFault(t, "func f() void\nb1:", api.ErrBlock, 2, 1)
	checkLineFault(t, "%1 = add nuw nsw i8 1, 2", api.ErrType, 14)
}

// P4.1: each row of the table, and each word of a row.
func TestForms(t *testing.T) {
	two := []api.Value{reg(0), number(3)}
	for i, word := range strings.Fields("add sub mul udiv sdiv urem srem and or xor shl lshr ashr") {
		checkForm(t, "%9 = "+word+" i8 %0, 3", api.Instr{Op: api.Add + i, Reg: 9, Type: 8, Args: two})
		checkForm(t, "%9 = "+word+" nsw nuw exact ptr %0, 3", api.Instr{Op: api.Add + i, Reg: 9, Type: api.Ptr, Flags: 7, Args: two})
	}
	for flags, words := range []string{"", "nsw", "nuw", "nsw nuw", "exact", "nsw exact", "nuw exact", "nsw nuw exact"} {
		checkForm(t, "%9 = or "+words+" i8 %0, 3", api.Instr{Op: api.Or, Reg: 9, Type: 8, Flags: flags, Args: two})
	}
	for i, word := range strings.Fields("eq ne ult ule slt sle") {
		checkForm(t, "%9 = "+word+" void %0, 3", api.Instr{Op: api.Eq + i, Reg: 9, Args: two})
	}
	for i, word := range strings.Fields("zext sext trunc") {
		checkForm(t, "%9 = "+word+" i8 %0 to i64", api.Instr{Op: api.Zext + i, Reg: 9, Type: 64, N: 8, Args: two[:1]})
	}
	checkForm(t, "%9 = select i8 %0, 3, poison", api.Instr{Op: api.Select, Reg: 9, Type: 8, Args: append(two[:2:2], api.Value{Kind: api.Poison})})
	checkForm(t, "%9 = freeze i8 3", api.Instr{Op: api.Freeze, Reg: 9, Type: 8, Args: two[1:]})
	checkForm(t, "%9 = phi i8", api.Instr{Op: api.Phi, Reg: 9, Type: 8})
	checkForm(t, "%9 = phi i8 b0 %0", api.Instr{Op: api.Phi, Reg: 9, Type: 8, Args: two[:1], To: []int{0}})
	checkForm(t, "%9 = phi i8 b999 %0, b0 3", api.Instr{Op: api.Phi, Reg: 9, Type: 8, Args: two, To: []int{999, 0}})
	checkForm(t, "%9 = alloca 1", api.Instr{Op: api.Alloca, Reg: 9, Type: api.Ptr, N: 1})
	checkForm(t, "%9 = alloca 64", api.Instr{Op: api.Alloca, Reg: 9, Type: api.Ptr, N: 64})
	checkForm(t, "%9 = load i8 %0", api.Instr{Op: api.Load, Reg: 9, Type: 8, Args: two[:1]})
	checkForm(t, "store i8 %0, 3", api.Instr{Op: api.Store, Reg: -1, Type: 8, Args: two})
	checkForm(t, "%9 = gep %0, 3", api.Instr{Op: api.Gep, Reg: 9, Type: api.Ptr, Args: two})
	checkForm(t, "call x()", api.Instr{Op: api.Call, Reg: -1, Type: 5, N: -1})
	checkForm(t, "%9 = call y(%0)", api.Instr{Op: api.Call, Reg: 9, Type: api.Ptr, N: -2, Args: two[:1]})
	checkForm(t, "%9 = call f(%0, 3)", api.Instr{Op: api.Call, Reg: 9, N: 0, Args: two})
	checkForm(t, "call h(%0)", api.Instr{Op: api.Call, Reg: -1, Type: 64, N: 1, Args: two[:1]})
	checkForm(t, "br b1", api.Instr{Op: api.Br, Reg: -1, To: []int{1}})
	checkForm(t, "brif %0, b0, b12", api.Instr{Op: api.Brif, Reg: -1, Args: two[:1], To: []int{0, 12}})
	checkForm(t, "ret", api.Instr{Op: api.Ret, Reg: -1})
	checkForm(t, "ret void 3", api.Instr{Op: api.Ret, Reg: -1, Args: two[1:]})
	checkForm(t, "ret i8 3", api.Instr{Op: api.Ret, Reg: -1, Type: 8, Args: two[1:]})
	checkForm(t, "halt", api.Instr{Op: api.Halt, Reg: -1})
}

func checkForm(t *testing.T, line string, want api.Instr) {
	t.Helper()
	checkModule(t, "global g 8\nglobal k 1\nextern x() i5\nextern y(i8) ptr\nfunc f() void\nb0:\n"+line+"\nend\nfunc h() i64\nb0:\nend", api.Module{
		Vars:    []api.Var{{Name: "g", Size: 8}, {Name: "k", Size: 1}},
		Externs: []api.Extern{{Name: "x", Ret: 5}, {Name: "y", Params: []int{8}, Ret: api.Ptr}},
		Funcs:   []api.Func{{Name: "f", Blocks: []api.Block{{Code: []api.Instr{want}}}}, {Name: "h", Ret: 64, Blocks: []api.Block{{}}}},
	})
}

// P4.1: each operand, and its greatest.
func TestOperands(t *testing.T) {
	for word, want := range map[string]api.Value{
		"%0": reg(0), "%4095": reg(4095), "0": number(0), "18446744073709551615": number(1<<64 - 1),
		"poison": {Kind: api.Poison}, "null": {Kind: api.Null}, "@g": global(0), "@k": global(1),
	} {
		checkForm(t, "%4095 = freeze i8 "+word, api.Instr{Op: api.Freeze, Reg: 4095, Type: 8, Args: []api.Value{want}})
	}
	for _, bad := range []string{"i8", "b0", "poisons", "to", "=", ",", "(", ")", ":", ""} {
		checkLineFault(t, "%1 = freeze i8 "+bad, api.ErrSyntax, 16)
	}
}

// P4.1: the words of types, and words that are none, wherever a type stands.
func TestTypes(t *testing.T) {
	for want := 0; want <= api.Ptr; want++ {
		word := "i" + strconv.Itoa(want)
		switch want {
		case api.Void:
			word = "void"
		case api.Ptr:
			word = "ptr"
		}
		checkForm(t, "%1 = phi "+word, api.Instr{Op: api.Phi, Reg: 1, Type: want})
		checkModule(t, "extern x("+word+","+word+")"+word, api.Module{Externs: []api.Extern{{Name: "x", Params: []int{want, want}, Ret: want}}})
	}
	for _, bad := range []string{"i", "i0", "i65", "i01", "i08", "i00", "i8x", "i_8", "i100", "i18446744073709551624", "void8", "ptr0", "b0", "end", "nsw", "poison", "x"} {
		for _, line := range []string{"%1 = add ", "%1 = eq ", "%1 = sext ", "%1 = trunc i8 7 to ", "%1 = select ", "%1 = freeze ", "%1 = phi ", "%1 = load ", "store ", "ret "} {
			if bad == "nsw" && strings.Contains(line, "add") {
				continue
			}
			checkLineFault(t, line+bad, api.ErrType, len(line)+1)
		}
		for _, line := range []string{"extern x(", "extern x(i8, ", "extern x() ", "func x(", "func x(i8, ", "func x() "} {
			checkFault(t, line+bad, api.ErrType, 1, len(line)+1)
		}
	}
	for _, bad := range []string{"7", "%1", "@i8", "=", ",", "(", ":"} {
		checkLineFault(t, "%1 = add "+bad, api.ErrSyntax, 10)
		checkFault(t, "extern x("+bad, api.ErrSyntax, 1, 10)
		checkFault(t, "func x(i8) "+bad, api.ErrSyntax, 1, 12)
	}
}

// P4.1: a block's word has a numeral of at most three digits.
func TestBlockWords(t *testing.T) {
	for _, n := range []int{0, 1, 9, 10, 99, 100, 999} {
		checkForm(t, "br b"+strconv.Itoa(n), api.Instr{Op: api.Br, Reg: -1, To: []int{n}})
	}
	for _, bad := range []string{"b", "b1000", "b00", "b01", "b007", "b1x", "b_1", "c1", "1", "@b1", "="} {
		checkLineFault(t, "br "+bad, api.ErrSyntax, 4)
		checkLineFault(t, "brif 1, "+bad, api.ErrSyntax, 9)
		checkLineFault(t, "brif 1, b1, "+bad, api.ErrSyntax, 13)
		checkLineFault(t, "%1 = phi i8 b1 7, "+bad, api.ErrSyntax, 19)
		checkLineFault(t, bad+":", api.ErrSyntax, 1)
	}
}

// P4.1: labels begin the next block each; blocks may be empty, and are not asked for where they are named.
func TestLabels(t *testing.T) {
	checkModule(t, "func f() void\nb0 :\n\nb1:\nbr b7\nb2:\nend", api.Module{Funcs: []api.Func{{Name: "f", Blocks: []api.Block{
		{}, {Code: []api.Instr{{Op: api.Br, Reg: -1, To: []int{7}}}}, {},
	}}}})
	checkLineFault(t, "b1:", api.ErrBlock, 1)
	checkLineFault(t, "b3:", api.ErrBlock, 1)
	checkLineFault(t, "b0 = add", api.ErrBlock, 1)
	checkLineFault(t, "b999", api.ErrBlock, 1)
	checkLineFault(t, "b2", api.ErrSyntax, 3)
	checkLineFault(t, "b2: halt", api.ErrSyntax, 5)
	checkLineFault(t, "b2::", api.ErrSyntax, 4)
}

// P4.1: nothing but labels stands ahead of the first label.
func TestAheadOfLabel(t *testing.T) {
	for _, line := range []string{"end", "end x", "halt", "%1 = add i8 1, 2", "(", "b1000:", "func", "7"} {
		checkFault(t, "func f() void\n "+line+"\nb0:\nend", api.ErrSyntax, 2, 2)
	}
	checkFault(t, "func f() void\nb0 end", api.ErrSyntax, 2, 4)
}

// P4.1: the first piece that a line doesn't have.
func TestLines(t *testing.T) {
	for _, line := range []string{"end", "b0:", "halt", "(", "%1 = add", "7", "@g", "globals", "_"} {
		checkFault(t, "global g 1\n"+line, api.ErrSyntax, 2, 1)
	}
	for _, line := range []string{"global", "func", "extern", "(", "=", "7", "@g", "add", "nop", "_", "phi", "alloca", "load", "gep"} {
		checkLineFault(t, line+" i8 b0 1", api.ErrSyntax, 1)
	}
	for _, word := range []string{"store", "br", "brif", "ret", "halt", "end", "b2", "add0", "nsw", "=", "7", ""} {
		checkLineFault(t, "%1 = "+word, api.ErrSyntax, 6)
	}
	checkLineFault(t, "%1", api.ErrSyntax, 3)
	checkLineFault(t, "%1 add", api.ErrSyntax, 4)
	checkLineFault(t, "end end", api.ErrSyntax, 5)
	checkLineFault(t, "halt 7", api.ErrSyntax, 6)
	checkLineFault(t, "ret i8", api.ErrSyntax, 7)
	checkLineFault(t, "ret 7", api.ErrSyntax, 5)
	checkLineFault(t, "ret i8 7, 8", api.ErrSyntax, 9)
	checkLineFault(t, "brif 1, b0", api.ErrSyntax, 11)
	checkLineFault(t, "brif 1, b0 b1", api.ErrSyntax, 12)
	checkLineFault(t, "br b0, b1", api.ErrSyntax, 6)
	checkLineFault(t, "%1 = phi i8 7", api.ErrSyntax, 13)
	checkLineFault(t, "%1 = phi i8 b0 7,", api.ErrSyntax, 18)
	checkLineFault(t, "%1 = phi i8 b0 7 b1 8", api.ErrSyntax, 18)
	checkLineFault(t, "%1 = zext i8 7, i9", api.ErrSyntax, 15)
	checkLineFault(t, "%1 = eq nsw i8 1, 2", api.ErrType, 9)
	checkLineFault(t, "%1 = add nsw nsw i8 1, 2", api.ErrType, 14)
	checkLineFault(t, "%1 = add exact nuw i8 1, 2", api.ErrType, 16)
	checkLineFault(t, "call (", api.ErrSyntax, 6)
	checkLineFault(t, "call @f()", api.ErrSyntax, 6)
	checkLineFault(t, "call f", api.ErrSyntax, 7)
	checkLineFault(t, "call f(7,)", api.ErrSyntax, 10)
	checkLineFault(t, "call f(7 8)", api.ErrSyntax, 10)
	checkLineFault(t, "call f(7) 8", api.ErrSyntax, 11)
	for text, col := range map[string]int{
		"global": 7, "global 7": 8, "global @g 7": 8, "global g x": 10, "global g 7 8": 12, "global g %1": 10,
		"func": 5, "func f": 7, "func f i8": 8, "func f(": 8, "func f(i8": 10, "func f(i8,)": 11, "func f(i8 i8)": 11, "func f(,": 8, "func f()": 9, "func f() i8 :": 13,
		"extern": 7, "extern %1": 8, "extern f)": 9, "extern f() i8 i8": 15,
	} {
		checkFault(t, text, api.ErrSyntax, 1, col)
		checkFault(t, text+"\nend", api.ErrSyntax, 1, col)
	}
}

// P4.1: at the text's end the place is its last line, and the column behind its last byte.
func TestTextEnd(t *testing.T) {
	for text, at := range map[string][2]int{
		"func f() void\n":            {2, 1},
		"func f() void # end":        {1, 20},
		"func f() void\n\n\t ":       {3, 3},
		"func f() void\nb0:":         {2, 4},
		"func f() void\nb0:\n":       {3, 1},
		"func f() void\nb0:\nret":    {3, 4},
		"func f() void\nb0:\nret  ":  {3, 6},
		"func f() void\nb0:\n%1 ":    {3, 4},
		"func f() void\nb0:\nbr\r\n": {3, 4},
		"global g # \xff":            {1, 13},
		"global g # \xff\n":          {1, 13},
	} {
		checkFault(t, text, api.ErrSyntax, at[0], at[1])
	}
	checkModule(t, "", api.Module{})
	checkModule(t, "\n \n# func\n", api.Module{})
}

// P4.1: the limits, and one more than each.
func TestLimits(t *testing.T) {
	line := func(front, back string) func(int) string {
		return func(i int) string { return front + string(rune('a'+i)) + back }
	}
	eights := repeat(8, line("global ", " 1")) + repeat(8, line("extern x", "() void")) + repeat(8, line("func ", "() void\nb0:\nend"))
	if m, fault := parse.Parse(eights); fault != (api.Fault{}) || len(m.Vars) != 8 || len(m.Externs) != 8 || len(m.Funcs) != 8 {
		t.Error(fault, "of eight of each")
	}
	for _, c := range []struct{ front, back string }{{"global ", " 1"}, {"extern ", "() void"}, {"func ", "() void\nb0:\nend"}} {
		eight := repeat(8, line(c.front, c.back))
		lines := 1 + strings.Count(eight, "\n")
		for _, back := range []string{"i" + c.back, "i", "a", "a" + c.back} {
			checkFault(t, eight+c.front+back, api.ErrLimit, lines, 1+len(c.front))
		}
		checkFault(t, eight+c.front+"7", api.ErrSyntax, lines, 1+len(c.front))
	}
	for _, size := range []string{"0", "65", "100", "4294967297", "18446744073709551615"} {
		checkFault(t, "global g "+size+" x", api.ErrLimit, 1, 10)
		checkLineFault(t, "%1 = alloca "+size+" x", api.ErrLimit, 13)
	}
	checkModule(t, "global g 64\nglobal h 1", api.Module{Vars: []api.Var{{Name: "g", Size: 64}, {Name: "h", Size: 1}}})
	eight := strings.Repeat("i8, ", 7) + "i8"
	checkModule(t, "extern f("+eight+") i8", api.Module{Externs: []api.Extern{{Name: "f", Params: []int{8, 8, 8, 8, 8, 8, 8, 8}, Ret: 8}}})
	for _, head := range []string{"extern f(", "func f("} {
		checkFault(t, head+eight+", i8) x", api.ErrLimit, 1, len(head+eight)+3)
		checkFault(t, head+eight+", x", api.ErrType, 1, len(head+eight)+3)
		checkFault(t, head+eight+", 7", api.ErrSyntax, 1, len(head+eight)+3)
		checkFault(t, head+eight+",", api.ErrSyntax, 1, len(head+eight)+2)
	}
	args := strings.Repeat("7, ", 8) + "7"
	checkForm(t, "call f("+args+")", api.Instr{Op: api.Call, Reg: -1, Args: []api.Value{number(7), number(7), number(7), number(7), number(7), number(7), number(7), number(7), number(7)}})
}

// P4.1: a function has at most 64 blocks, and at most 400 instructions in all of its blocks.
func TestGreatFunctions(t *testing.T) {
	label := func(i int) string { return "b" + strconv.Itoa(i) + ":" }
	blocks := "func f() void\n" + repeat(64, label)
	for _, next := range []string{"b64:", "b64", "b0:", "b999 x"} {
		checkFault(t, blocks+next+"\nend", api.ErrLimit, 66, 1)
	}
	checkFault(t, blocks+"b1000:\nend", api.ErrSyntax, 66, 1)
	full := blocks + repeat(400, func(int) string { return "halt" })
	m, fault := parse.Parse(full + "end\n" + strings.Replace(full, "f(", "g(", 1) + "end")
	if fault != (api.Fault{}) || len(m.Funcs) != 2 || ir.Size(m.Funcs[0]) != 400 || ir.Size(m.Funcs[1]) != 400 || len(m.Funcs[1].Blocks) != 64 {
		t.Error(fault, "of two full functions")
	}
	for _, next := range []string{"halt", "(", "%1", "7", "=", "x", "add", "b1000:", "func g() void", "@g"} {
		checkFault(t, full+" "+next+"\nend", api.ErrLimit, 466, 2)
	}
	checkFault(t, full+"end end", api.ErrSyntax, 466, 5)
	checkFault(t, full, api.ErrSyntax, 466, 1)
	spread := "func f() void\n" + repeat(64, func(i int) string { return label(i) + strings.Repeat("\nhalt", 6) }) + strings.Repeat("halt\n", 16)
	if m, fault := parse.Parse(spread + "end"); fault != (api.Fault{}) || ir.Size(m.Funcs[0]) != 400 {
		t.Error(fault, "of 400 instructions in 64 blocks")
	}
	checkFault(t, spread+"halt\nend", api.ErrLimit, 466, 1)
}

// P4.1: what is told twice; globals have names of their own.
func TestTwice(t *testing.T) {
	checkFault(t, "global g 1\nglobal h 1\nglobal g", api.ErrTwice, 3, 8)
	checkFault(t, "extern f() void\nextern f(", api.ErrTwice, 2, 8)
	checkFault(t, "extern f() void\nfunc f", api.ErrTwice, 2, 6)
	checkFault(t, "func f() void\nb0:\nend\nextern f() x", api.ErrTwice, 4, 8)
	checkFault(t, "func f() void\nb0:\nend\nfunc e() void\nb0:\nend\nfunc f", api.ErrTwice, 7, 6)
	checkModule(t, "func f() void\nb0:\nend\nglobal f 1\nextern g() i8\nglobal g 2", api.Module{
		Vars:    []api.Var{{Name: "f", Size: 1}, {Name: "g", Size: 2}},
		Externs: []api.Extern{{Name: "g", Ret: 8}},
		Funcs:   []api.Func{{Name: "f", Blocks: []api.Block{{}}}},
	})
}

// P4.1: any word may be a name.
func TestAnyName(t *testing.T) {
	for _, name := range []string{"global", "extern", "func", "end", "b0", "i8", "void", "ptr", "add", "call", "null", "poison", "to", "_"} {
		checkModule(t, "global "+name+" 1\nfunc "+name+"() ptr\nb0:\n%1 = call "+name+"(@"+name+")\nend", api.Module{
			Vars: []api.Var{{Name: name, Size: 1}},
			Funcs: []api.Func{{Name: name, Ret: api.Ptr, Blocks: []api.Block{{Code: []api.Instr{
				{Op: api.Call, Reg: 1, Type: api.Ptr, Args: []api.Value{global(0)}},
			}}}}},
		})
	}
}

// P4.1: names are asked among those ahead and behind; the first that nothing has is told, behind all other faults.
func TestNames(t *testing.T) {
	checkModule(t, "func f() i8\nb0:\ncall h(@k)\ncall f()\ncall y(@g, @k)\nend\nextern x() i1\nfunc h() i16\nb0:\nend\nglobal g 1\nextern y() i2\nglobal k 2", api.Module{
		Vars:    []api.Var{{Name: "g", Size: 1}, {Name: "k", Size: 2}},
		Externs: []api.Extern{{Name: "x", Ret: 1}, {Name: "y", Ret: 2}},
		Funcs: []api.Func{
			{Name: "f", Ret: 8, Blocks: []api.Block{{Code: []api.Instr{
				{Op: api.Call, Reg: -1, Type: 16, N: 1, Args: []api.Value{global(1)}},
				{Op: api.Call, Reg: -1, Type: 8, N: 0},
				{Op: api.Call, Reg: -1, Type: 2, N: -2, Args: []api.Value{global(0), global(1)}},
			}}}},
			{Name: "h", Ret: 16, Blocks: []api.Block{{}}},
		},
	})
	checkLineFault(t, "call g(@g)", api.ErrName, 6)
	checkLineFault(t, "call f(1, @f, @h)", api.ErrName, 11)
	checkLineFault(t, "store i8 @a, @b", api.ErrName, 10)
	checkLineFault(t, "brif @a, b0, b1\ncall x()", api.ErrName, 6)
	checkLineFault(t, "%1 = phi i8 b0 1, b1 @a", api.ErrName, 22)
	checkFault(t, "global g 1\nextern x() void\nfunc f() void\nb0:\ncall x(@g)\ncall f(@x)\ncall g()\nend", api.ErrName, 6, 8)
	checkFault(t, "global g 1\nfunc f() void\nb0:\ncall g()\nend", api.ErrName, 4, 6)
	checkFault(t, "func f() void\nb0:\ncall x()\nend\nend", api.ErrSyntax, 5, 1)
	checkFault(t, "func f() void\nb0:\ncall x(@g)\n", api.ErrSyntax, 4, 1)
	checkFault(t, "func f() void\nb0:\ncall x(@g)\nend\nextern f() void", api.ErrTwice, 5, 8)
	checkFault(t, "func f() void\nb0:\ncall f()\ncall f(@g)\nend\nglobal h 1\n", api.ErrName, 4, 8)
}

// P4.1: chapter 3's Fault is told first, then the first from the left of all the others.
func TestFirstFault(t *testing.T) {
	checkFault(t, "(\nglobal g 65\n007", api.ErrNumber, 3, 1)
	checkFault(t, "end\n  A", api.ErrByte, 2, 3)
	checkFault(t, "(\n"+strings.Repeat(" ", api.MaxText), api.ErrLimit, 0, 0)
	checkFault(t, "global g 0\nglobal g (", api.ErrLimit, 1, 10)
	checkFault(t, "global g 1\nglobal g 0", api.ErrTwice, 2, 8)
	checkFault(t, "global g 1 2\nglobal g 0", api.ErrSyntax, 1, 12)
	checkFault(t, "func f(x) y\nb1:", api.ErrType, 1, 8)
	checkFault(t, "func f() void\nb1:\nend\nx", api.ErrBlock, 2, 1)
	checkFault(t, "func f() void\nb0:\n%1 = alloca 65 x", api.ErrLimit, 3, 13)
	checkModule(t, "global g 1"+strings.Repeat(" ", api.MaxText-10), api.Module{Vars: []api.Var{{Name: "g", Size: 1}}})
}
