package spell_test

import (
	"regexp"
	"slices"
	"strconv"
	"strings"

	"lathe/api"
)

// Chapter 4's table once more, in the order of the operations' numbers. Great letters are the chapter's; N is the type that a conversion begins with, FLAGS the words of the flags, .. any number with commas between.
const table = `
	REG = add FLAGS T V , V
	REG = sub FLAGS T V , V
	REG = mul FLAGS T V , V
	REG = udiv FLAGS T V , V
	REG = sdiv FLAGS T V , V
	REG = urem FLAGS T V , V
	REG = srem FLAGS T V , V
	REG = and FLAGS T V , V
	REG = or FLAGS T V , V
	REG = xor FLAGS T V , V
	REG = shl FLAGS T V , V
	REG = lshr FLAGS T V , V
	REG = ashr FLAGS T V , V
	REG = eq T V , V
	REG = ne T V , V
	REG = ult T V , V
	REG = ule T V , V
	REG = slt T V , V
	REG = sle T V , V
	REG = zext N V to T
	REG = sext N V to T
	REG = trunc N V to T
	REG = select T V , V , V
	REG = freeze T V
	REG = phi T B..V
	REG = alloca NUM
	REG = load T V
	store T V , V
	REG = gep V , V
	REG = call NAME ( V.. )
	br B
	brif V , B , B
	ret T V
	halt`

// rows are the table's, by operations; row 0 has nothing.
var rows = cut("\n" + strings.TrimSpace(table))

func cut(table string) [][]string {
	var all [][]string
	for line := range strings.Lines(table) {
		all = append(all, strings.Fields(line))
	}
	return all
}

// rowOf is the row that an instruction has, cut down to what stands in its line.
func rowOf(in api.Instr) ([]string, bool) {
	if in.Op < 1 || in.Op >= len(rows) {
		return nil, false
	}
	row := rows[in.Op]
	if in.Op == api.Ret && len(in.Args) == 0 {
		row = row[:1]
	}
	if in.Op == api.Call && in.Reg == -1 {
		row = row[2:]
	}
	return row, true
}

const (
	typeMost = 65
	regMost  = 4095
)

var isWord = regexp.MustCompile(`^[a-z_][a-z0-9_]*$`).MatchString

func from0(n, most int) bool {
	return n >= 0 && n <= most
}

// sayableByTable is what the chapter tells of Sayable.
func sayableByTable(m api.Module) bool {
	for _, v := range m.Vars {
		if !isWord(v.Name) || v.Size < 0 {
			return false
		}
	}
	for _, x := range m.Externs {
		if !headByTable(x.Name, append(slices.Clone(x.Params), x.Ret)) {
			return false
		}
	}
	for _, f := range m.Funcs {
		if !headByTable(f.Name, append(slices.Clone(f.Params), f.Ret)) {
			return false
		}
		for _, b := range f.Blocks {
			for _, in := range b.Code {
				if !instrByTable(m, in) {
					return false
				}
			}
		}
	}
	return true
}

func headByTable(name string, types []int) bool {
	for _, t := range types {
		if !from0(t, typeMost) {
			return false
		}
	}
	return isWord(name)
}

// instrByTable counts what the row has, and asks that all else is zero.
func instrByTable(m api.Module, in api.Instr) bool {
	row, ok := rowOf(in)
	if !ok {
		return false
	}
	has := func(part string) bool { return slices.Contains(row, part) }
	args, to := 0, 0
	for _, part := range row {
		switch part {
		case "V":
			args++
		case "B":
			to++
		case "B..V":
			args, to = len(in.To), len(in.To)
		case "V..":
			args = len(in.Args)
		}
	}
	return len(in.Args) == args && len(in.To) == to &&
		typeByTable(m, in, has) && numbersByTable(m, in, has) && listsByTable(m, in)
}

func typeByTable(m api.Module, in api.Instr, has func(part string) bool) bool {
	switch {
	case has("T"):
		return from0(in.Type, typeMost)
	case has("alloca"), has("gep"):
		return in.Type == 65
	case has("call") && from0(in.N, len(m.Funcs)-1):
		return in.Type == m.Funcs[in.N].Ret
	case has("call") && from0(-1-in.N, len(m.Externs)-1):
		return in.Type == m.Externs[-1-in.N].Ret
	}
	return !has("call") && in.Type == 0
}

func numbersByTable(m api.Module, in api.Instr, has func(part string) bool) bool {
	n := in.N == 0 || has("NUM") && in.N > 0 || has("N") && from0(in.N, typeMost) || has("call")
	flags := in.Flags == 0 || has("FLAGS") && from0(in.Flags, 7)
	reg := has("REG") && from0(in.Reg, regMost) || !has("REG") && in.Reg == -1
	return n && flags && reg
}

func listsByTable(m api.Module, in api.Instr) bool {
	for _, to := range in.To {
		if !from0(to, 999) {
			return false
		}
	}
	for _, v := range in.Args {
		// What an operand of this kind has, other fields being zero.
		want := api.Value{Kind: v.Kind}
		switch v.Kind {
		case 1:
			want.N = max(0, min(v.N, regMost))
		case 2:
			want.Bits = v.Bits
		case 5:
			want.N = max(0, min(v.N, len(m.Vars)-1))
		}
		if v != want || v.Kind < 1 || v.Kind > 5 || v.Kind == 5 && len(m.Vars) == 0 {
			return false
		}
	}
	return true
}

// textByTable is what the chapter tells of the text of a sayable module.
func textByTable(m api.Module) string {
	var text strings.Builder
	line := func(ahead string, pieces ...string) { text.WriteString(ahead + spaced(pieces) + "\n") }
	for _, v := range m.Vars {
		line("", "global", v.Name, strconv.Itoa(v.Size))
	}
	for _, x := range m.Externs {
		line("", "extern", x.Name, "(", typesByTable(x.Params), ")", typeWord(x.Ret))
	}
	for _, f := range m.Funcs {
		line("", "func", f.Name, "(", typesByTable(f.Params), ")", typeWord(f.Ret))
		for i, b := range f.Blocks {
			line("", "b"+strconv.Itoa(i), ":")
			for _, in := range b.Code {
				line("  ", piecesByTable(m, in)...)
			}
		}
		line("", "end")
	}
	return text.String()
}

var (
	blanks      = regexp.MustCompile(` +`)
	blankAhead  = regexp.MustCompile(` ([(),:])`)
	blankBehind = regexp.MustCompile(`\( `)
)

// spaced sets one blank between pieces, and lets those go that must not stand.
func spaced(pieces []string) string {
	text := blanks.ReplaceAllString(strings.Join(pieces, " "), " ")
	text = blankAhead.ReplaceAllString(text, "$1")
	return blankBehind.ReplaceAllString(text, "(")
}

func typeWord(t int) string {
	switch t {
	case 0:
		return "void"
	case 65:
		return "ptr"
	}
	return "i" + strconv.Itoa(t)
}

func typesByTable(types []int) string {
	var all []string
	for _, t := range types {
		all = append(all, typeWord(t))
	}
	return strings.Join(all, " , ")
}

// piecesByTable puts what an instruction has into its row.
func piecesByTable(m api.Module, in api.Instr) []string {
	row, _ := rowOf(in)
	args, to := in.Args, in.To
	var pieces []string
	for _, part := range row {
		switch part {
		case "REG":
			part = "%" + strconv.Itoa(in.Reg)
		case "T":
			part = typeWord(in.Type)
		case "N":
			part = typeWord(in.N)
		case "NUM":
			part = strconv.Itoa(in.N)
		case "NAME":
			part = calleeByTable(m, in.N)
		case "FLAGS":
			part = []string{"", "nsw", "nuw", "nsw nuw", "exact", "nsw exact", "nuw exact", "nsw nuw exact"}[in.Flags]
		case "V":
			part, args = operandByTable(m, args[0]), args[1:]
		case "B":
			part, to = "b"+strconv.Itoa(to[0]), to[1:]
		case "V..", "B..V":
			var all []string
			for i, v := range args {
				item := operandByTable(m, v)
				if part == "B..V" {
					item = "b" + strconv.Itoa(to[i]) + " " + item
				}
				all = append(all, item)
			}
			part = strings.Join(all, " , ")
		}
		if part != "" {
			pieces = append(pieces, part)
		}
	}
	return pieces
}

func calleeByTable(m api.Module, n int) string {
	if n < 0 {
		return m.Externs[-1-n].Name
	}
	return m.Funcs[n].Name
}

func operandByTable(m api.Module, v api.Value) string {
	switch v.Kind {
	case 1:
		return "%" + strconv.Itoa(v.N)
	case 2:
		return strconv.FormatUint(v.Bits, 10)
	case 3:
		return "poison"
	case 4:
		return "null"
	}
	return "@" + m.Vars[v.N].Name
}
