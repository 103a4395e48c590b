package fold

import (
	"lathe/api"
)

// How chapter 10's Eval ends, where it has a value.
const endValue = 0

// literals are the values that operands are, if all of them are literals.
func literals(args []api.Value) ([]api.Val, bool) {
	var values []api.Val
	for _, arg := range args {
		v, ok := literal(arg)
		if !ok {
			return nil, false
		}
		values = append(values, v)
	}
	return values, true
}

func literal(arg api.Value) (api.Val, bool) {
	switch arg.Kind {
	case api.Const:
		return api.Val{Kind: api.IsInt, Bits: arg.Bits}, true
	case api.Poison:
		return api.Val{}, true
	case api.Null:
		return api.Val{Kind: api.IsAddr, Block: -1}, true
	case api.Global:
		return api.Val{Kind: api.IsAddr, Block: arg.N}, true
	}
	return api.Val{}, false
}

// operand is the literal that is a value of type t, if there is one: none is an address within a global.
func operand(t int, v api.Val) (api.Value, bool) {
	switch v.Kind {
	case api.IsInt:
		return api.Value{Kind: api.Const, Bits: v.Bits}, true
	case api.IsAny:
		return zero(t), true
	case api.IsAddr:
		return address(v)
	}
	return api.Value{Kind: api.Poison}, true
}

// zero stands for any: whoever may be any number may be this one.
func zero(t int) api.Value {
	if t == api.Ptr {
		return api.Value{Kind: api.Null}
	}
	return api.Value{Kind: api.Const}
}

func address(v api.Val) (api.Value, bool) {
	switch {
	case v.Off != 0 || v.Block < -1:
		return api.Value{}, false
	case v.Block == -1:
		return api.Value{Kind: api.Null}, true
	}
	return api.Value{Kind: api.Global, N: v.Block}, true
}
