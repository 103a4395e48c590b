package spell_test

import (
	"math"
	"math/rand"
	"reflect"
	"strconv"
	"strings"

	"lathe/api"
	"lathe/lex"
)

func reg(n int) api.Value       { return api.Value{Kind: api.Reg, N: n} }
func number(b uint64) api.Value { return api.Value{Kind: api.Const, Bits: b} }
func global(n int) api.Value    { return api.Value{Kind: api.Global, N: n} }

// maker makes modules; seeded, the same ones in every run.
type maker struct{ *rand.Rand }

func seeded(n int64) maker {
	return maker{rand.New(rand.NewSource(n))}
}

func oneOf[T any](r maker, all ...T) T {
	return all[r.Intn(len(all))]
}

// name is mostly one that nothing else has.
func (r maker) name(front string, i int) string {
	if r.Intn(60) == 0 {
		return oneOf(r, "x0", "g0", "end", "_")
	}
	return front + strconv.Itoa(i)
}

func (r maker) size() int {
	if r.Intn(60) == 0 {
		return oneOf(r, 0, 65, math.MaxInt)
	}
	return 1 + r.Intn(64)
}

func (r maker) anyType() int {
	return oneOf(r, 8, api.Ptr, api.Void, r.Intn(66))
}

func (r maker) types() []int {
	var all []int
	for range r.Intn(4) {
		all = append(all, r.anyType())
	}
	return all
}

// module is sayable, and mostly one that is read from its text.
func (r maker) module() api.Module {
	var m api.Module
	for i := range r.Intn(4) {
		m.Vars = append(m.Vars, api.Var{Name: r.name("g", i), Size: r.size()})
	}
	for i := range r.Intn(4) {
		m.Externs = append(m.Externs, api.Extern{Name: r.name("x", i), Params: r.types(), Ret: r.anyType()})
	}
	for i := range r.Intn(4) {
		m.Funcs = append(m.Funcs, api.Func{Name: r.name("f", i), Params: r.types(), Ret: r.anyType()})
	}
	for i := range m.Funcs {
		blocks := 1 + r.Intn(4)
		if r.Intn(60) == 0 {
			blocks = oneOf(r, 0, 64, 65)
		}
		m.Funcs[i].Blocks = make([]api.Block, blocks)
		for b := range blocks {
			m.Funcs[i].Blocks[b].Code = r.code(m)
		}
	}
	return m
}

func (r maker) code(m api.Module) []api.Instr {
	var code []api.Instr
	for range r.Intn(6) {
		code = append(code, r.instr(m, 1+r.Intn(api.Halt)))
	}
	return code
}

// instr fills a row.
func (r maker) instr(m api.Module, op int) api.Instr {
	in := api.Instr{Op: op, Reg: -1}
	row := rows[op]
	if op == api.Call && r.Intn(2) == 0 {
		row = row[2:]
	}
	if op == api.Ret && r.Intn(2) == 0 {
		row = row[:1]
	}
	for _, part := range row {
		switch part {
		case "REG":
			in.Reg = r.register()
		case "FLAGS":
			in.Flags = r.Intn(8)
		case "T":
			in.Type = r.anyType()
		case "N":
			in.N = r.anyType()
		case "NUM":
			in.N, in.Type = r.size(), api.Ptr
		case "gep":
			in.Type = api.Ptr
		case "V":
			in.Args = append(in.Args, r.operand(m))
		case "B":
			in.To = append(in.To, r.target())
		case "V..", "B..V":
			for range r.Intn(4) {
				in.Args = append(in.Args, r.operand(m))
				if part == "B..V" {
					in.To = append(in.To, r.target())
				}
			}
		case "NAME":
			in.N = r.Intn(len(m.Externs)+len(m.Funcs)) - len(m.Externs)
			if in.N < 0 {
				in.Type = m.Externs[-1-in.N].Ret
			} else {
				in.Type = m.Funcs[in.N].Ret
			}
		}
	}
	return in
}

func (r maker) register() int {
	return oneOf(r, 0, 1, r.Intn(10), 4095, r.Intn(4096))
}

func (r maker) target() int {
	return oneOf(r, 0, 1, 2, 999, r.Intn(1000))
}

func (r maker) operand(m api.Module) api.Value {
	if len(m.Vars) > 0 && r.Intn(5) == 0 {
		return global(r.Intn(len(m.Vars)))
	}
	return oneOf(r, reg(r.register()), number(uint64(r.Intn(10))), number(r.Uint64()>>r.Intn(64)), number(math.MaxUint64), api.Value{Kind: api.Poison}, api.Value{Kind: api.Null})
}

// loose is a text with the same pieces, but other blanks, empty lines and remarks.
func (r maker) loose(text string) string {
	pieces, _ := lex.Tokens(text)
	var loose strings.Builder
	ahead := "\n"
	for _, piece := range pieces {
		word := map[int]string{api.TokReg: "%", api.TokAt: "@", api.TokEnd: oneOf(r, "\n", "#\n", "\r\n", "# end %\xff\n", "\n\n \t#b0:\n")}[piece.Kind] + piece.Text
		if !strings.ContainsAny(ahead[len(ahead)-1:], "=,():\n") {
			loose.WriteString(oneOf(r, " ", "\t", "\r", "  "))
		}
		loose.WriteString(oneOf(r, "", "", "\t", " ") + word)
		ahead = word
	}
	return loose.String()
}

// Numbers and texts at the edges that the chapter names, and far beyond.
var (
	wilds     = []int{math.MinInt, -1 << 32, -3, -2, -1, 0, 1, 2, 3, 4, 5, 6, 7, 8, 64, 65, 66, 999, 1000, 4095, 4096, 1 << 32, math.MaxInt}
	wildNames = []string{"", "a", "_", "0", "9a", "A", "a b", " a", "a\n", "a-b", "é", "@a", "%1", "a\x00", "i8", "end", "(", "z_09"}
)

// changes shows the module with each number and text of it changed, one at a time, to all of the edges; each list longer, shorter, and without its first.
func changes(m api.Module, show func(changed api.Module)) {
	changeEach(reflect.ValueOf(&m).Elem(), func() { show(m) })
}

func changeEach(at reflect.Value, show func()) {
	old := reflect.New(at.Type()).Elem()
	old.Set(at)
	switch at.Kind() {
	case reflect.Slice:
		for i := range at.Len() {
			changeEach(at.Index(i), show)
		}
		if n := at.Len(); n > 0 {
			at.Set(reflect.Append(old.Slice3(0, n, n), old.Index(n-1)))
			show()
			at.Set(old.Slice(0, n-1))
			show()
			at.Set(old.Slice(1, n))
			show()
		}
		at.Set(reflect.Append(old.Slice3(0, old.Len(), old.Len()), reflect.Zero(at.Type().Elem())))
		show()
	case reflect.Struct:
		for i := range at.NumField() {
			changeEach(at.Field(i), show)
		}
		return
	case reflect.Int:
		for _, n := range wilds {
			at.SetInt(int64(n))
			show()
		}
	case reflect.Uint64:
		for _, n := range wilds {
			at.SetUint(uint64(n))
			show()
		}
	case reflect.String:
		for _, name := range wildNames {
			at.SetString(name)
			show()
		}
	}
	at.Set(old)
}
