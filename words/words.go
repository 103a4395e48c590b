// Package words has the words of chapter 4's forms, for what reads them and what spells them.
package words

import (
	"lathe/api"
)

// ops are the words, by their operations.
var ops = [...]string{
	api.Add: "add", api.Sub: "sub", api.Mul: "mul",
	api.Udiv: "udiv", api.Sdiv: "sdiv", api.Urem: "urem", api.Srem: "srem",
	api.And: "and", api.Or: "or", api.Xor: "xor",
	api.Shl: "shl", api.Lshr: "lshr", api.Ashr: "ashr",
	api.Eq: "eq", api.Ne: "ne", api.Ult: "ult", api.Ule: "ule", api.Slt: "slt", api.Sle: "sle",
	api.Zext: "zext", api.Sext: "sext", api.Trunc: "trunc",
	api.Select: "select", api.Freeze: "freeze", api.Phi: "phi",
	api.Alloca: "alloca", api.Load: "load", api.Store: "store", api.Gep: "gep",
	api.Call: "call", api.Br: "br", api.Brif: "brif", api.Ret: "ret", api.Halt: "halt",
}

// Of: the word of an operation; the empty text, if there is no such operation.
func Of(op int) string {
	if op < 0 || op >= len(ops) {
		return ""
	}
	return ops[op]
}

// Op: the operation of a word; 0, if it is no operation's.
func Op(word string) int {
	for op, its := range ops {
		if its == word {
			return op
		}
	}
	return 0
}
