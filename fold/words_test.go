package fold_test

import (
	"lathe/api"
	"lathe/eval"
	"lathe/ir"
)

// The chapter's words once more, as they are told.

// asValue is a literal as chapter 11 reads it.
func asValue(v api.Value) (api.Val, bool) {
	switch v.Kind {
	case 2:
		return api.Val{Kind: 1, Bits: v.Bits}, true
	case 3:
		return api.Val{}, true
	case 4:
		return api.Val{Kind: 2, Block: -1, Off: 0}, true
	case 5:
		return api.Val{Kind: 2, Block: v.N, Off: 0}, true
	}
	return api.Val{}, false
}

func foldByWords(in api.Instr) (api.Value, bool) {
	var values []api.Val
	all := true
	for _, arg := range in.Args {
		v, ok := asValue(arg)
		values, all = append(values, v), all && ok
	}
	if !all || !ir.Calm(in.Op) {
		return api.Value{}, false
	}
	v, end := eval.Eval(in, values)
	switch {
	case end != 0:
		return api.Value{}, false
	case v.Kind == 0:
		return api.Value{Kind: 3}, true
	case v.Kind == 1:
		return api.Value{Kind: 2, Bits: v.Bits}, true
	case v.Kind == 2 && v.Block == -1 && v.Off == 0:
		return api.Value{Kind: 4}, true
	case v.Kind == 2 && v.Block >= 0 && v.Off == 0:
		return api.Value{Kind: 5, N: v.Block}, true
	case v.Kind == 3 && in.Type == 65:
		return api.Value{Kind: 4}, true
	case v.Kind == 3:
		return api.Value{Kind: 2}, true
	}
	return api.Value{}, false
}

// firstByWords is the place of the first instruction that folds, and what it folds to.
func firstByWords(f api.Func) (api.Place, api.Value, bool) {
	for b, block := range f.Blocks {
		for i, in := range block.Code {
			if v, ok := foldByWords(in); ok {
				return api.Place{Block: b, At: i}, v, true
			}
		}
	}
	return api.Place{}, api.Value{}, false
}

// allByWords takes out the first instruction that folds, as often as there is one.
func allByWords(f api.Func) api.Func {
	f = ir.CopyFunc(f)
	for {
		at, v, ok := firstByWords(f)
		if !ok {
			return f
		}
		code := f.Blocks[at.Block].Code
		reg := code[at.At].Reg
		f.Blocks[at.Block].Code = append(code[:at.At:at.At], code[at.At+1:]...)
		f = ir.Replace(f, reg, v)
	}
}
