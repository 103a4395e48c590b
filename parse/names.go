package parse

import (
	"slices"

	"lathe/api"
	"lathe/ir"
)

// ask keeps a name that may be told further behind. What asks holds the number that is answered here, until the names are settled.
func (p *parser) ask(name api.Token) int {
	p.asked = append(p.asked, name)
	return len(p.asked) - 1
}

// settle puts what has the names in the place of the names; it goes over them in the order of the text.
func (p *parser) settle() {
	for _, f := range p.module.Funcs {
		for _, b := range f.Blocks {
			for i := range b.Code {
				p.settleNames(&b.Code[i])
			}
		}
	}
}

func (p *parser) settleNames(in *api.Instr) {
	if in.Op == api.Call {
		in.N = p.answer(in.N, p.findCallee)
		_, in.Type, _ = ir.Callee(p.module, in.N)
	}
	for i, v := range in.Args {
		if v.Kind == api.Global {
			in.Args[i].N = p.answer(v.N, p.findVar)
		}
	}
}

func (p *parser) answer(asked int, find func(name string) (int, bool)) int {
	name := p.asked[asked]
	n, ok := find(name.Text)
	if !ok {
		p.refuse(api.ErrName, name)
	}
	return n
}

// findVar is the number of a global.
func (p *parser) findVar(name string) (int, bool) {
	n := slices.IndexFunc(p.module.Vars, func(v api.Var) bool { return v.Name == name })
	return n, n >= 0
}

// findCallee is the number by which a call calls an extern or a function.
func (p *parser) findCallee(name string) (int, bool) {
	n := slices.IndexFunc(p.module.Externs, func(x api.Extern) bool { return x.Name == name })
	if n >= 0 {
		return -1 - n, true
	}
	n = slices.IndexFunc(p.module.Funcs, func(f api.Func) bool { return f.Name == name })
	return n, n >= 0
}
