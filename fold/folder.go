package fold

import (
	"lathe/api"
	"lathe/ir"
)

// folder goes from what folds to what folds by that. Which goes first doesn't matter where every register is made once.
type folder struct {
	f    api.Func // a copy, whose operands become literals
	gone [][]bool // which instructions folded
	uses map[int][]use
	todo []folded
}

// use is where a register is an operand.
type use struct {
	api.Place
	arg int
}

// folded is a register, and the literal that its uses become.
type folded struct {
	reg int
	is  api.Value
}

func folderOf(f api.Func) *folder {
	w := &folder{f: ir.CopyFunc(f), uses: map[int][]use{}}
	for b, block := range f.Blocks {
		w.gone = append(w.gone, make([]bool, len(block.Code)))
		for i, in := range block.Code {
			for k, v := range in.Args {
				if v.Kind == api.Reg {
					w.uses[v.N] = append(w.uses[v.N], use{api.Place{Block: b, At: i}, k})
				}
			}
		}
	}
	return w
}

// try takes an instruction out, if it folds.
func (w *folder) try(at api.Place) {
	in := w.f.Blocks[at.Block].Code[at.At]
	if is, ok := Fold(in); ok {
		w.gone[at.Block][at.At] = true
		w.todo = append(w.todo, folded{in.Reg, is})
	}
}

// replace lays the literal where the register is used. An instruction can fold only behind the last of its registers, and so it comes once.
func (w *folder) replace(by folded) {
	for _, u := range w.uses[by.reg] {
		w.f.Blocks[u.Block].Code[u.At].Args[u.arg] = by.is
		w.try(u.Place)
	}
	delete(w.uses, by.reg)
}

// rest is the function without what folded.
func (w *folder) rest() api.Func {
	for b, gone := range w.gone {
		var code []api.Instr
		for i, is := range gone {
			if !is {
				code = append(code, w.f.Blocks[b].Code[i])
			}
		}
		w.f.Blocks[b].Code = code
	}
	return w.f
}
