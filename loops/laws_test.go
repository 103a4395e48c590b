package loops_test

import (
	"reflect"
	"slices"
	"testing"

	"lathe/api"
	"lathe/dom"
	"lathe/ir"
	"lathe/loops"
)

// checkByWords holds Find and Ahead against the chapter's words, and asks that what is handed in stays.
func checkByWords(t *testing.T, f api.Func) []api.Loop {
	t.Helper()
	before := ir.CopyFunc(f)
	w, got := wordsOf(f), loops.Find(f)
	if want := w.find(); !slices.EqualFunc(got, want, sameLoop) {
		t.Fatalf("Find of %v: %v, not %v", f, got, want)
	}
	for h := range f.Blocks {
		p, ok := loops.Ahead(f, h)
		if want, is := w.ahead(h); p != want || ok != is {
			t.Fatalf("Ahead of %d of %v: %d, %v", h, f, p, ok)
		}
	}
	if !reflect.DeepEqual(f, before) {
		t.Fatal("what is handed in is changed", f, before)
	}
	return got
}

// P13.1: Find and Ahead answer what the chapter's words tell, for functions of any data.
func TestByWords(t *testing.T) {
	deep, wide := 0, 0
	eachFunc(func(f api.Func) {
		for _, l := range checkByWords(t, f) {
			deep = max(deep, l.Depth)
			wide = max(wide, len(l.Exits))
		}
	})
	if deep < 6 || wide < 4 {
		t.Error("no loops are deep, or none has many exits:", deep, wide)
	}
}

// P13.1: all ways in which four blocks may follow each other.
func TestFourByWords(t *testing.T) {
	eachOfSize(4, func(f api.Func) { checkByWords(t, f) })
}

// P13.3: two loops with unlike headers have no block in common, or the header of one is in the other one, and then all of its blocks are.
func TestApartOrInner(t *testing.T) {
	inner, apart := 0, 0
	eachFunc(func(f api.Func) {
		all := loops.Find(f)
		for i, a := range all {
			for _, b := range all[:i] {
				if has(b.Blocks, a.Header) {
					checkInner(t, f, a, b)
					inner++
				} else if has(a.Blocks, b.Header) {
					checkInner(t, f, b, a)
					inner++
				} else {
					apart++
					if slices.ContainsFunc(a.Blocks, func(b0 int) bool { return has(b.Blocks, b0) }) {
						t.Fatal("they have a block in common", a, b, f)
					}
				}
			}
		}
	})
	if inner < 1000 || apart < 1000 {
		t.Error("hardly any two loops lie so:", inner, apart)
	}
}

// checkInner: all of a loop is in another one, with a lesser depth, whose header dominates its header.
func checkInner(t *testing.T, f api.Func, in, out api.Loop) {
	t.Helper()
	if slices.ContainsFunc(in.Blocks, func(b int) bool { return !has(out.Blocks, b) }) || in.Depth <= out.Depth || !dom.Dominates(f, out.Header, in.Header) {
		t.Fatal("not in each other:", in, out, f)
	}
}

// P13.1: a header dominates all of its loop, and lists rise.
func TestHeaderDominates(t *testing.T) {
	eachFunc(func(f api.Func) {
		for i, l := range loops.Find(f) {
			for _, b := range l.Blocks {
				if !dom.Dominates(f, l.Header, b) {
					t.Fatal("the header doesn't dominate", b, l, f)
				}
			}
			for _, list := range [][]int{l.Blocks, l.Latch, l.Exits} {
				if !slices.IsSorted(list) || len(slices.Compact(slices.Clone(list))) != len(list) {
					t.Fatal("a list doesn't rise", i, l, f)
				}
			}
		}
	})
}

// lists are all lists of numbers of loops.
func lists(all []api.Loop) [][]int {
	var lists [][]int
	for _, l := range all {
		lists = append(lists, l.Blocks, l.Latch, l.Exits)
	}
	return lists
}

// P13.1: what Find answers is new memory: what is done to one list, in its spare room too, is done to no other one, nor to another answer.
func TestFindNewMemory(t *testing.T) {
	eachFunc(func(f api.Func) {
		kept, spoiled := loops.Find(f), lists(loops.Find(f))
		for i, list := range spoiled {
			list = list[:cap(list)]
			for k := range list {
				list[k] = -100 - i
			}
		}
		for i, list := range spoiled {
			for _, n := range list[:cap(list)] {
				if n != -100-i {
					t.Fatal("two lists share memory", f)
				}
			}
		}
		if want := wordsOf(f).find(); !slices.EqualFunc(kept, want, sameLoop) || !slices.EqualFunc(loops.Find(f), want, sameLoop) {
			t.Fatal("two answers share memory", f)
		}
	})
}
