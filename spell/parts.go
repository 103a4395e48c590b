package spell

import (
	"slices"
	"strconv"
	"strings"

	"lathe/api"
	"lathe/words"
)

// lay joins a line's parts, as many as there are; an empty part is none.
func lay(parts ...string) string {
	var line strings.Builder
	for _, part := range parts {
		if line.Len() > 0 && part != "" {
			line.WriteByte(' ')
		}
		line.WriteString(part)
	}
	return line.String()
}

func list(items ...string) string {
	return strings.Join(items, ", ")
}

// spellEach spells all of a list.
func spellEach[T any](all []T, spell func(one T) string) []string {
	var parts []string
	for _, one := range all {
		parts = append(parts, spell(one))
	}
	return parts
}

// head is what externs and functions have alike, but what they answer.
func head(name string, params []int) string {
	return name + "(" + list(spellEach(params, Type)...) + ")"
}

func register(n int) string {
	return "%" + strconv.Itoa(n)
}

func block(n int) string {
	return "b" + strconv.Itoa(n)
}

// instruction is the parts of a line.
func (s *speller) instruction(in api.Instr) []string {
	parts := append([]string{words.Of(in.Op)}, s.form(in)...)
	if in.Reg < 0 {
		return parts
	}
	return append([]string{register(in.Reg), "="}, parts...)
}

// form is the parts that stand behind a form's word.
func (s *speller) form(in api.Instr) []string {
	args, to := spellEach(in.Args, s.operand), spellEach(in.To, block)
	switch in.Op {
	case api.Zext, api.Sext, api.Trunc:
		return []string{Type(in.N), list(args...), "to", Type(in.Type)}
	case api.Phi:
		for i := range args {
			args[i] = lay(to[i], args[i])
		}
	case api.Alloca:
		return []string{strconv.Itoa(in.N)}
	case api.Call:
		return []string{s.callee(in.N) + "(" + list(args...) + ")"}
	case api.Gep, api.Br, api.Brif, api.Halt:
		return []string{list(slices.Concat(args, to)...)}
	case api.Ret:
		if len(args) == 0 {
			return nil
		}
	}
	return []string{flags(in.Flags), Type(in.Type), list(args...)}
}

// flags are the words in the order in which they may stand.
func flags(sum int) string {
	var parts []string
	if sum&api.Nsw != 0 {
		parts = append(parts, "nsw")
	}
	if sum&api.Nuw != 0 {
		parts = append(parts, "nuw")
	}
	if sum&api.Exact != 0 {
		parts = append(parts, "exact")
	}
	return lay(parts...)
}

// callee is the name of what a call calls.
func (s *speller) callee(n int) string {
	if n < 0 {
		return s.module.Externs[-1-n].Name
	}
	return s.module.Funcs[n].Name
}

func (s *speller) operand(v api.Value) string {
	switch v.Kind {
	case api.Reg:
		return register(v.N)
	case api.Const:
		return strconv.FormatUint(v.Bits, 10)
	case api.Poison:
		return "poison"
	case api.Null:
		return "null"
	}
	return "@" + s.module.Vars[v.N].Name
}
