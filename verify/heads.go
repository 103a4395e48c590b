package verify

import (
	"slices"

	"lathe/api"
	"lathe/lex"
)

// outside is the place of what stands in no function.
func outside() api.Place {
	return api.Place{Func: -1}
}

// checkVars asks how many there are of everything, and each global.
func checkVars(m api.Module) {
	at := outside()
	refuse(len(m.Vars) > api.MaxVars || len(m.Externs) > api.MaxExt || len(m.Funcs) > api.MaxFuncs, api.ErrLimit, at)
	checkName := namesChecker()
	for _, v := range m.Vars {
		checkName(v.Name, at)
		refuse(!isFrom(1, api.MaxBytes, v.Size), api.ErrLimit, at)
	}
}

// checkHeads asks what externs and functions have alike; their names are of one sort.
func checkHeads(m api.Module) {
	checkName := namesChecker()
	check := func(name string, params []int, ret, mostType int, at api.Place) {
		checkName(name, at)
		refuse(len(params) > api.MaxParams, api.ErrLimit, at)
		refuse(slices.ContainsFunc(params, func(t int) bool { return !isFrom(1, mostType, t) }), api.ErrType, at)
		refuse(!isFrom(api.Void, mostType, ret), api.ErrType, at)
	}
	for _, x := range m.Externs {
		// The outside is neither handed an address nor answers one.
		check(x.Name, x.Params, x.Ret, 64, outside())
	}
	for n, f := range m.Funcs {
		check(f.Name, f.Params, f.Ret, api.Ptr, api.Place{Func: n})
	}
}

// namesChecker makes a check that keeps the names that were shown to it.
func namesChecker() func(name string, at api.Place) {
	var shown []string
	return func(name string, at api.Place) {
		refuse(!lex.Word(name), api.ErrName, at)
		refuse(slices.Contains(shown, name), api.ErrTwice, at)
		shown = append(shown, name)
	}
}
