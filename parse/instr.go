package parse

import (
	"lathe/api"
	"lathe/ir"
	"lathe/words"
)

// opOf is the operation of a form's word, 0 of any other piece.
func opOf(piece api.Token) int {
	if piece.Kind != api.TokWord {
		return 0
	}
	return words.Op(piece.Text)
}

// instruction reads one with its line's end.
func (p *parser) instruction() api.Instr {
	in := api.Instr{Reg: -1}
	if p.next().Kind == api.TokReg {
		in.Reg = int(numberOf(p.want(api.TokReg)))
		p.wantMark("=")
	}
	word := p.next()
	in.Op = opOf(word)
	if !standsBehind(in.Op, in.Reg >= 0) {
		p.refuse(api.ErrSyntax, word)
	}
	p.pass()
	p.form(&in)
	p.wantLineEnd()
	return in
}

// standsBehind tells whether a form may stand behind a register and a =, or alone.
func standsBehind(op int, register bool) bool {
	return op == api.Call || op != 0 && ir.Idle(op) == register
}

// form reads what stands behind a form's word.
func (p *parser) form(in *api.Instr) {
	switch op := in.Op; op {
	case api.Zext, api.Sext, api.Trunc:
		in.N = p.wantType()
		p.operand(in)
		p.wantWord("to")
		in.Type = p.wantType()
	case api.Select:
		p.typed(in, 3)
	case api.Freeze, api.Load:
		p.typed(in, 1)
	case api.Phi:
		p.phi(in)
	case api.Alloca:
		in.Type, in.N = api.Ptr, p.wantSize()
	case api.Gep:
		in.Type = api.Ptr
		p.operands(in, 2)
	case api.Call:
		in.N = p.ask(p.want(api.TokWord))
		p.inBrackets(func() { p.operand(in) })
	case api.Brif:
		p.operand(in)
		p.wantMark(",")
		p.target(in)
		p.wantMark(",")
		fallthrough
	case api.Br:
		p.target(in)
	case api.Ret:
		if p.next().Kind != api.TokEnd {
			p.typed(in, 1)
		}
	case api.Halt:
	default: // Add to Sle, and Store
		if op <= api.Ashr {
			in.Flags = p.flags()
		}
		p.typed(in, 2)
	}
}

// flags reads the words that may stand ahead of a type, in this order alone.
func (p *parser) flags() int {
	flags := 0
	if p.passed(api.TokWord, "nsw") {
		flags += api.Nsw
	}
	if p.passed(api.TokWord, "nuw") {
		flags += api.Nuw
	}
	if p.passed(api.TokWord, "exact") {
		flags += api.Exact
	}
	return flags
}

// typed reads a type and so many operands.
func (p *parser) typed(in *api.Instr, operands int) {
	in.Type = p.wantType()
	p.operands(in, operands)
}

// phi reads a type, and the blocks with their operands, if there are any.
func (p *parser) phi(in *api.Instr) {
	in.Type = p.wantType()
	if p.next().Kind == api.TokEnd {
		return
	}
	p.withCommas(func() {
		p.target(in)
		p.operand(in)
	})
}

func (p *parser) target(in *api.Instr) {
	in.To = append(in.To, p.wantBlock())
}

// operands reads so many, with commas between.
func (p *parser) operands(in *api.Instr, n int) {
	for i := range n {
		if i > 0 {
			p.wantMark(",")
		}
		p.operand(in)
	}
}

func (p *parser) operand(in *api.Instr) {
	var v api.Value
	switch piece := p.next(); {
	case piece.Kind == api.TokReg:
		v = api.Value{Kind: api.Reg, N: int(numberOf(piece))}
	case piece.Kind == api.TokNum:
		v = api.Value{Kind: api.Const, Bits: numberOf(piece)}
	case piece.Kind == api.TokAt:
		v = api.Value{Kind: api.Global, N: p.ask(piece)}
	case piece.Kind == api.TokWord && piece.Text == "poison":
		v = api.Value{Kind: api.Poison}
	case piece.Kind == api.TokWord && piece.Text == "null":
		v = api.Value{Kind: api.Null}
	default:
		p.refuse(api.ErrSyntax, piece)
	}
	p.pass()
	in.Args = append(in.Args, v)
}
