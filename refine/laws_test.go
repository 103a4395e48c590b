package refine_test

import (
	"slices"
	"testing"

	"lathe/api"
	"lathe/refine"
)

func sameVars(a, b [][]api.Byte) bool {
	return slices.EqualFunc(a, b, slices.Equal[[]api.Byte])
}

func sameEvent(a, b api.Event) bool {
	return a.Extern == b.Extern && slices.Equal(a.Args, b.Args) && sameVars(a.Vars, b.Vars)
}

func same(a, b api.Outcome) bool {
	return a.Status == b.Status && a.Ret == b.Ret && a.Steps == b.Steps && slices.EqualFunc(a.Events, b.Events, sameEvent) && sameVars(a.Vars, b.Vars)
}

// checkByWords holds one call against the words, and asks that what is handed in stays.
func checkByWords(t *testing.T, o, by api.Outcome) bool {
	t.Helper()
	was, wasBy := copyOf(o), copyOf(by)
	got := refine.Refines(o, by)
	if got != refinesByWords(o, by) {
		t.Fatalf("Refines answers %v:\n%v\n%v", got, o, by)
	}
	if !same(o, was) || !same(by, wasBy) {
		t.Fatal("what is handed in is changed", o, by)
	}
	return got
}

// P12.1: all kinds of values and of bytes, by the words.
func TestKindsByWords(t *testing.T) {
	for _, v := range values() {
		for _, by := range values() {
			if got, want := refine.Value(v, by), valueByWords(v, by); got != want {
				t.Error("Value", v, by, got)
			}
		}
	}
	for _, b := range bytes() {
		for _, by := range bytes() {
			if got, want := refine.Byte(b, by), byteByWords(b, by); got != want {
				t.Error("Byte", b, by, got)
			}
		}
	}
}

// P12.1: outcomes of any data, and such as are much like them, by the words.
func TestOutcomesByWords(t *testing.T) {
	r, met, refused := seeded(121), map[int]int{}, map[int]int{}
	for range 100000 {
		o := r.outcome()
		by := r.other(o)
		if r.Intn(8) == 0 {
			by = r.outcome()
		}
		for _, x := range [][2]api.Outcome{{o, by}, {by, o}} {
			if checkByWords(t, x[0], x[1]) {
				met[x[0].Status]++
			} else {
				refused[x[0].Status]++
			}
		}
	}
	for _, status := range statuses() {
		if met[status] < 500 || status != api.Bad && refused[status] < 500 {
			t.Error("hardly any outcome of status", status, met, refused)
		}
	}
}

// P12.2: each value and each byte is refined by itself.
func TestEachByItself(t *testing.T) {
	for _, v := range values() {
		if !refine.Value(v, v) {
			t.Error(v)
		}
	}
	for _, b := range bytes() {
		if !refine.Byte(b, b) {
			t.Error(b)
		}
	}
}

// P12.2: each outcome is refined by itself (by the chapter's words one with a status without a name, too), and by a copy.
func TestOutcomeByItself(t *testing.T) {
	r := seeded(122)
	for range 50000 {
		o := r.outcome()
		if !refine.Refines(o, o) || !refine.Refines(o, copyOf(o)) {
			t.Fatal(o)
		}
	}
}

// checkChains asks of all three whether what refines what refines one refines it, and of how many rows it is asked.
func checkChains[T any](t *testing.T, all []T, refines func(one, by T) bool) {
	t.Helper()
	met := 0
	for _, a := range all {
		for _, b := range all {
			if !refines(a, b) {
				continue
			}
			for _, c := range all {
				if !refines(b, c) {
					continue
				}
				met++
				if !refines(a, c) {
					t.Fatal(a, b, c)
				}
			}
		}
	}
	if met < 10000 {
		t.Error("hardly any rows", met)
	}
}

// P12.2: what refines what refines a value, a byte, refines it.
func TestChains(t *testing.T) {
	checkChains(t, values(), refine.Value)
	checkChains(t, bytes(), refine.Byte)
}
