package loops_test

import (
	"reflect"
	"slices"
	"strings"
	"testing"

	"lathe/api"
	"lathe/graph"
	"lathe/ir"
	"lathe/loops"
	"lathe/spell"
	"lathe/verify"
)

// checkSimple makes a program's functions simple, and holds its text against the one that is told; the lines are separated by semicolons.
func checkSimple(t *testing.T, text, want string) {
	t.Helper()
	m := read(t, text)
	for n, f := range m.Funcs {
		m.Funcs[n] = loops.Simple(f)
	}
	if got := spell.Text(m); got != spell.Text(read(t, want)) {
		t.Errorf("Simple of\n%s\nis\n%s\nnot\n%s", strings.ReplaceAll(text, ";", "\n"), got, strings.ReplaceAll(want, ";", "\n"))
	}
}

// The chapter's example of Simple: b4 is put ahead of b1.
func TestSimpleExample(t *testing.T) {
	checkSimple(t,
		"func f(i1) void;b0:;brif %0, b1, b3;b1:;brif %0, b2, b3;b2:;br b1;b3:;ret;end",
		"func f(i1) void;b0:;brif %0, b4, b3;b1:;brif %0, b2, b3;b2:;br b1;b3:;ret;b4:;br b1;end")
}

// P13.1: a function without loops, and one whose loops have a block ahead, is as it was.
func TestSimpleStays(t *testing.T) {
	for _, text := range []string{
		"func f(i1) void;b0:;brif %0, b1, b2;b1:;br b3;b2:;br b3;b3:;ret;end",
		"func f(i1) void;b0:;br b1;b1:;brif %0, b2, b3;b2:;br b1;b3:;ret;end",
		"func f(i1) void;b0:;brif %0, b1, b1;b1:;brif %0, b1, b2;b2:;br b3;b3:;brif %0, b3, b4;b4:;ret;end",
		// A round with two ways in has no header.
		"func f(i1) void;b0:;brif %0, b1, b2;b1:;br b2;b2:;brif %0, b1, b3;b3:;ret;end",
		// A round that isn't reachable.
		"func f(i1) void;b0:;ret;b1:;br b2;b2:;brif %0, b2, b2;end",
	} {
		checkSimple(t, text, text)
	}
}

// P13.1: with one outer predecessor, which goes elsewhere too, its operands come from the new block, and no Phi is made.
func TestSimpleOneOuter(t *testing.T) {
	checkSimple(t,
		"func f(i8, i1) i8;b0:;brif %1, b2, b1;b1:;%2 = phi i8 b0 7, b1 %3;%3 = phi i8 b0 %0, b1 %2;%4 = phi i1 b0 %1, b1 poison;brif %4, b1, b2;b2:;%5 = phi i8 b0 0, b1 %2;ret i8 %5;end",
		"func f(i8, i1) i8;b0:;brif %1, b2, b3;b1:;%2 = phi i8 b1 %3, b3 7;%3 = phi i8 b1 %2, b3 %0;%4 = phi i1 b1 poison, b3 %1;brif %4, b1, b2;b2:;%5 = phi i8 b0 0, b1 %2;ret i8 %5;b3:;br b1;end")
}

// P13.1: with two outer predecessors, what they bring is brought together in the new block: a Phi for each, of its type, with the least registers that are free, in the order of the header's; the latches' operands stay.
func TestSimpleManyOuter(t *testing.T) {
	checkSimple(t,
		"func f(i8, i1) i8;b0:;brif %1, b1, b2;b1:;%4 = add i8 %0, 1;br b3;b2:;br b3;b3:;%2 = phi i8 b1 %4, b2 9, b4 %6, b5 %0;%7 = phi ptr b1 null, b2 null, b4 %7, b5 null;%6 = add i8 %2, 1;brif %1, b4, b5;b4:;br b3;b5:;brif %1, b3, b6;b6:;ret i8 %2;end",
		"func f(i8, i1) i8;b0:;brif %1, b1, b2;b1:;%4 = add i8 %0, 1;br b7;b2:;br b7;b3:;%2 = phi i8 b4 %6, b5 %0, b7 %3;%7 = phi ptr b4 %7, b5 null, b7 %5;%6 = add i8 %2, 1;brif %1, b4, b5;b4:;br b3;b5:;brif %1, b3, b6;b6:;ret i8 %2;b7:;%3 = phi i8 b1 %4, b2 9;%5 = phi ptr b1 null, b2 null;br b3;end")
	// Also where all of them bring the same, and where the header goes on to itself ahead of others.
	checkSimple(t,
		"func f(i1) i8;b0:;brif %0, b2, b3;b1:;%1 = phi i8 b1 %1, b2 5, b3 5;brif %0, b1, b4;b2:;br b1;b3:;br b1;b4:;ret i8 %1;end",
		"func f(i1) i8;b0:;brif %0, b2, b3;b1:;%1 = phi i8 b1 %1, b5 %2;brif %0, b1, b4;b2:;br b5;b3:;br b5;b4:;ret i8 %1;b5:;%2 = phi i8 b2 5, b3 5;br b1;end")
}

// P13.1: an outer predecessor that goes on to the header both ways goes on to the new block both ways; one that isn't reachable counts like any other.
func TestSimpleEachTo(t *testing.T) {
	checkSimple(t,
		"func f(i1) i8;b0:;brif %0, b1, b2;b1:;brif %0, b2, b2;b2:;%1 = phi i8 b0 1, b1 2, b2 3;brif %0, b2, b3;b3:;ret i8 %1;end",
		"func f(i1) i8;b0:;brif %0, b1, b4;b1:;brif %0, b4, b4;b2:;%1 = phi i8 b2 3, b4 %2;brif %0, b2, b3;b3:;ret i8 %1;b4:;%2 = phi i8 b0 1, b1 2;br b2;end")
	checkSimple(t,
		"func f(i1) i8;b0:;br b1;b1:;%1 = phi i8 b0 1, b1 2, b3 %3;brif %0, b1, b2;b2:;ret i8 %1;b3:;%3 = add i8 %1, 1;brif %0, b1, b2;end",
		"func f(i1) i8;b0:;br b4;b1:;%1 = phi i8 b1 2, b4 %2;brif %0, b1, b2;b2:;ret i8 %1;b3:;%3 = add i8 %1, 1;brif %0, b4, b2;b4:;%2 = phi i8 b0 1, b3 %3;br b1;end")
}

// P13.1: headers rising, each behind what was done for those ahead of it: one block may be an outer predecessor of two headers, or a latch of the one.
func TestSimpleManyHeaders(t *testing.T) {
	checkSimple(t,
		"func f(i1) i8;b0:;brif %0, b2, b1;b1:;%1 = phi i8 b0 1, b1 2;brif %0, b1, b3;b2:;%2 = phi i8 b0 3, b2 4;brif %0, b3, b2;b3:;%3 = phi i8 b1 %1, b2 %2;ret i8 %3;end",
		"func f(i1) i8;b0:;brif %0, b5, b4;b1:;%1 = phi i8 b1 2, b4 1;brif %0, b1, b3;b2:;%2 = phi i8 b2 4, b5 3;brif %0, b3, b2;b3:;%3 = phi i8 b1 %1, b2 %2;ret i8 %3;b4:;br b1;b5:;br b2;end")
	// The outer header, b3, is the greater number: so the inner one's block is b5. The outer one goes on to the inner one and out.
	checkSimple(t,
		"func f(i1) i8;b0:;brif %0, b3, b4;b1:;%1 = phi i8 b2 %2, b3 %3;br b2;b2:;%2 = add i8 %1, 1;brif %0, b1, b3;b3:;%3 = phi i8 b0 0, b2 %2;brif %0, b4, b1;b4:;ret i8 7;end",
		"func f(i1) i8;b0:;brif %0, b6, b4;b1:;%1 = phi i8 b2 %2, b5 %3;br b2;b2:;%2 = add i8 %1, 1;brif %0, b1, b3;b3:;%3 = phi i8 b2 %2, b6 0;brif %0, b4, b5;b4:;ret i8 7;b5:;br b1;b6:;br b3;end")
}

// rows has a block 0 that goes on to a chain of headers, each of which goes on to itself and to the one behind it, and so has no block ahead; a ret is last.
func rows(blocks int) api.Func {
	ways := [][]int{{1}}
	for b := 1; b < blocks-1; b++ {
		ways = append(ways, []int{b, b + 1})
	}
	return goesTo(append(ways, nil)...)
}

// P13.1: as long as there are fewer than MaxBlocks blocks.
func TestSimpleFull(t *testing.T) {
	for blocks, want := range map[int]int{20: 37, 33: 63, 34: 64, 63: 64, 64: 64, 65: 65, 90: 90} {
		f := rows(blocks)
		got := loops.Simple(f)
		if len(got.Blocks) != want {
			t.Error(blocks, "blocks become", len(got.Blocks), "and not", want)
		}
		if want == blocks && !ir.SameFunc(got, f) {
			t.Error("there is no room for a block ahead, and yet it's another function", blocks)
		}
		for h := 2; h < blocks-1; h++ {
			p, ok := loops.Ahead(got, h)
			if place := blocks - 2 + h; ok != (place < want) || ok && p != place {
				t.Error("of", blocks, "ahead of", h, p, ok)
			}
		}
	}
}

// eachModule shows right modules small and great, the same ones in every run.
func eachModule(t *testing.T, times int, show func(m api.Module)) {
	r := seeded(131)
	for n := range times {
		blocks := 2 + r.Intn(9)
		if n%20 == 0 {
			blocks = 40 + r.Intn(25)
		}
		m := r.module(blocks)
		if code, place := verify.Check(m); code != api.OK {
			t.Fatal("a module that isn't right:", code, place, m)
		}
		show(m)
	}
}

// P13.1: Simple answers what the chapter's words tell, for functions of right modules; what is handed in stays.
func TestSimpleByWords(t *testing.T) {
	more, phis := 0, 0
	eachModule(t, 4000, func(m api.Module) {
		f := m.Funcs[0]
		before := ir.CopyFunc(f)
		got := loops.Simple(f)
		if want := simpleByWords(f); !ir.SameFunc(got, want) {
			t.Fatalf("Simple of %v: %v, not %v", f, got, want)
		}
		if !reflect.DeepEqual(f, before) {
			t.Fatal("what is handed in is changed", f, before)
		}
		for _, b := range got.Blocks[len(f.Blocks):] {
			more++
			phis += len(b.Code) - 1
		}
	})
	if more < 3000 || phis < 1000 {
		t.Error("hardly anything is put ahead:", more, phis)
	}
}

// P13.2: right again; every header with an outer predecessor has a block ahead, if there were blocks to have; once more it stays.
func TestSimpleIsRight(t *testing.T) {
	full := 0
	eachModule(t, 4000, func(m api.Module) {
		f := loops.Simple(m.Funcs[0])
		m.Funcs[0] = f
		if code, place := verify.Check(m); ir.Size(f) <= api.MaxCode && code != api.OK {
			t.Fatal("not right", code, place, f)
		}
		if len(f.Blocks) == api.MaxBlocks {
			full++
			return
		}
		for _, l := range loops.Find(f) {
			if _, ok := loops.Ahead(f, l.Header); !ok {
				t.Fatal("no block ahead of", l, f)
			}
		}
		if !ir.SameFunc(loops.Simple(f), f) {
			t.Fatal("made simple again it's another one", f)
		}
	})
	if full < 20 || full > 200 {
		t.Error("functions without room for more:", full)
	}
}

// P13.2: the loops stay, but for what lies ahead of an inner one, and the latches stay.
func TestSimpleKeepsLoops(t *testing.T) {
	eachModule(t, 2000, func(m api.Module) {
		f := m.Funcs[0]
		was, is := loops.Find(f), loops.Find(loops.Simple(f))
		isOld := func(b int) bool { return b < len(f.Blocks) }
		if !slices.EqualFunc(was, is, func(a, b api.Loop) bool {
			old := slices.DeleteFunc(b.Blocks, func(b int) bool { return !isOld(b) })
			return a.Header == b.Header && a.Depth == b.Depth && slices.Equal(a.Latch, b.Latch) && slices.Equal(a.Blocks, old)
		}) {
			t.Fatal(was, is, f)
		}
	})
}

// P1: of a function of any data Simple ends, without a panic; what is handed in stays. A header without an outer predecessor has none to put a block behind.
func TestSimpleAny(t *testing.T) {
	if f := goesTo([]int{1}, []int{0}); !ir.SameFunc(loops.Simple(f), f) {
		t.Error("a block is put ahead of block 0, which nothing comes to")
	}
	eachFunc(func(f api.Func) {
		before := ir.CopyFunc(f)
		loops.Simple(f)
		if !reflect.DeepEqual(f, before) {
			t.Fatal("what is handed in is changed", f, before)
		}
	})
}

// spoil overwrites all lists of a function, spare room too, with numbers of their own, and asks whether they all stay.
func spoil(t *testing.T, f api.Func) {
	t.Helper()
	numbers := [][]int{f.Params[:cap(f.Params)]}
	var values [][]api.Value
	for _, b := range f.Blocks[:cap(f.Blocks)] {
		for _, in := range b.Code[:cap(b.Code)] {
			numbers, values = append(numbers, in.To[:cap(in.To)]), append(values, in.Args[:cap(in.Args)])
		}
	}
	for n, list := range numbers {
		for i := range list {
			list[i] = -n
		}
	}
	for n, list := range values {
		for i := range list {
			list[i] = api.Value{N: n}
		}
	}
	for n, list := range numbers {
		if slices.ContainsFunc(list, func(i int) bool { return i != -n }) {
			t.Fatal("two lists of numbers share memory", f)
		}
	}
	for n, list := range values {
		if slices.ContainsFunc(list, func(v api.Value) bool { return v.N != n }) {
			t.Fatal("two lists of operands share memory", f)
		}
	}
	var codes [][]api.Instr
	for _, b := range f.Blocks[:cap(f.Blocks)] {
		codes = append(codes, b.Code[:cap(b.Code)])
	}
	clear(f.Blocks[:cap(f.Blocks)])
	for n, list := range codes {
		for i := range list {
			list[i] = api.Instr{N: n}
		}
	}
	for n, list := range codes {
		if slices.ContainsFunc(list, func(in api.Instr) bool { return in.N != n }) {
			t.Fatal("two lists of instructions share memory", f)
		}
	}
}

// P13.1: what Simple answers is new memory: no two of its lists share any, nor with what is handed in, nor with another answer.
func TestSimpleNewMemory(t *testing.T) {
	eachModule(t, 1000, func(m api.Module) {
		f := m.Funcs[0]
		// Room behind each list, so that what is handed in has some to be kept.
		f.Params = slices.Grow(f.Params, 2)
		for b := range f.Blocks {
			f.Blocks[b].Code = slices.Grow(f.Blocks[b].Code, 2)
		}
		f.Blocks = slices.Grow(f.Blocks, 2)
		before, one, other := ir.CopyFunc(f), loops.Simple(f), loops.Simple(f)
		want := simpleByWords(f)
		spoil(t, one)
		if !ir.SameFunc(f, before) || !ir.SameFunc(other, want) || !ir.SameFunc(loops.Simple(f), want) {
			t.Fatal("an answer shares memory", f)
		}
		if len(f.Blocks[:len(f.Blocks)+1][len(f.Blocks)].Code) > 0 || slices.Contains(graph.Succs(f, 0), -1) {
			t.Fatal("what lies behind what is handed in is changed", f)
		}
	})
}
