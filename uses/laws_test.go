package uses_test

import (
	"reflect"
	"slices"
	"testing"

	"lathe/api"
	"lathe/ir"
	"lathe/samples"
	"lathe/spell"
	"lathe/uses"
	"lathe/verify"
)

// eachFunc shows functions of right modules, and such of any data, the same ones in every run.
func eachFunc(times int, show func(f api.Func)) {
	show(api.Func{})
	r := samples.New(14)
	for range times {
		show(r.Wild())
		for _, f := range r.Module().Funcs {
			show(f)
		}
	}
}

// P14.1: both calls answer what the chapter's words tell; what is handed in stays.
func TestByWords(t *testing.T) {
	stay, goes := 0, 0
	eachFunc(3000, func(f api.Func) {
		before := ir.CopyFunc(f)
		if got, want := uses.Needed(f), neededByWords(f); !slices.EqualFunc(got, want, slices.Equal) {
			t.Fatalf("Needed of %v: %v, not %v", f, got, want)
		}
		got := uses.Clean(f)
		if want := cleanByWords(f); !ir.SameFunc(got, want) {
			t.Fatalf("Clean of %v: %v, not %v", f, got, want)
		}
		if !reflect.DeepEqual(f, before) {
			t.Fatal("what is handed in is changed", f, before)
		}
		stay += ir.Size(got)
		goes += ir.Size(f) - ir.Size(got)
	})
	if stay < 20000 || goes < 20000 {
		t.Error("hardly anything stays, or goes:", stay, goes)
	}
}

// P14.1: what Clean answers is new memory.
func TestCleanNewMemory(t *testing.T) {
	eachFunc(500, func(f api.Func) {
		if samples.Shares(f, uses.Clean(f), uses.Clean(f)) {
			t.Fatal("lists share memory")
		}
	})
}

// P14.1: what Needed answers is new memory.
func TestNeededNewMemory(t *testing.T) {
	eachFunc(500, func(f api.Func) {
		lists := append(uses.Needed(f), uses.Needed(f)...)
		want := append(neededByWords(f), neededByWords(f)...)
		for i, list := range lists {
			list = list[:cap(list)]
			for k := range list {
				list[k] = true
			}
			lists[i] = list
			for n, other := range lists[i+1:] {
				if !slices.Equal(other, want[i+1+n]) {
					t.Fatal("two lists share memory", f)
				}
			}
		}
	})
}

// P14.2: cleaned again a function stays as it is.
func TestCleanAgain(t *testing.T) {
	eachFunc(2000, func(f api.Func) {
		once := uses.Clean(f)
		if !ir.SameFunc(uses.Clean(once), once) {
			t.Fatal("cleaned again it's another one", f)
		}
		for _, block := range uses.Needed(once) {
			if slices.Contains(block, false) {
				t.Fatal("something isn't needed", once)
			}
		}
	})
}

// P14.2: every register that is used in a cleaned function of a right module is made in it, or holds an argument.
func TestUsedIsMade(t *testing.T) {
	r := samples.New(142)
	for range 2000 {
		for _, f := range r.Module().Funcs {
			f = uses.Clean(f)
			for _, block := range f.Blocks {
				for _, in := range block.Code {
					for _, v := range in.Args {
						if _, ok := ir.Def(f, v.N); v.Kind == api.Reg && v.N >= len(f.Params) && !ok {
							t.Fatal("used and not made:", v.N, f)
						}
					}
				}
			}
		}
	}
}

// P14.3: a right module with functions cleaned is right, and its runs refine the module's.
func TestRuns(t *testing.T) {
	r, tally := samples.New(143), samples.Tally{}
	for range 3000 {
		m := r.Module()
		clean := ir.Copy(m)
		for n, f := range m.Funcs {
			clean.Funcs[n] = uses.Clean(f)
		}
		if code, at := verify.Check(clean); code != api.OK {
			t.Fatal("not right", code, at, spell.Text(m))
		}
		if in, is := r.Worse(m, clean, 4, &tally); is {
			t.Fatalf("with %v another outcome:\n%s\n%s", in, spell.Text(m), spell.Text(clean))
		}
	}
	if tally[api.Done] < 5000 || tally[api.Undef] < 500 || tally[api.Loose] < 30 {
		t.Error("hardly any run ends so:", tally)
	}
}
