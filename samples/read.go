package samples

import (
	"strings"

	"lathe/api"
	"lathe/parse"
	"lathe/verify"
)

// Read reads a program whose lines are separated by semicolons; false, if it isn't read, or not right.
func Read(text string) (api.Module, bool) {
	m, fault := parse.Parse(strings.ReplaceAll(text, ";", "\n"))
	if fault != (api.Fault{}) {
		return api.Module{}, false
	}
	if code, _ := verify.Check(m); code != api.OK {
		return api.Module{}, false
	}
	return m, true
}
