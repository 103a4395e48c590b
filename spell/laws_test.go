package spell_test

import (
	"strings"
	"testing"
	"unsafe"

	"lathe/api"
	"lathe/ir"
	"lathe/parse"
	"lathe/spell"
)

// checkByTable holds both calls against the chapter's rules written once more; the module stays.
func checkByTable(t *testing.T, m api.Module) bool {
	t.Helper()
	before := ir.Copy(m)
	sayable, text := sayableByTable(m), ""
	if sayable {
		text = textByTable(m)
	}
	if got := spell.Sayable(m); got != sayable {
		t.Fatalf("Sayable(%v) = %v", m, got)
	}
	if got := spell.Text(m); got != text {
		t.Fatalf("Text(%v) = %q; not %q", m, got, text)
	}
	if !ir.Same(m, before) {
		t.Fatalf("%v is changed to %v", before, m)
	}
	return sayable
}

// P5.1: modules of any sayable data.
func TestAnyModules(t *testing.T) {
	r := seeded(1)
	for range 10000 {
		if m := r.module(); !checkByTable(t, m) {
			t.Fatalf("not sayable: %v", m)
		}
	}
}

// P5.1: all rows, with each number, text and list in turn changed.
func TestChanges(t *testing.T) {
	r := seeded(2)
	met := map[bool]int{}
	for range 3 {
		m := around(api.Instr{Op: api.Halt, Reg: -1})
		for op := api.Add; op <= api.Halt; op++ {
			m.Funcs[1].Blocks = append(m.Funcs[1].Blocks, api.Block{Code: []api.Instr{r.instr(m, op)}})
		}
		changes(m, func(changed api.Module) { met[checkByTable(t, changed)]++ })
	}
	if met[true] < 1000 || met[false] < 10000 {
		t.Error("too few changes are tried:", met)
	}
}

// P5.1: wild data in several places at once.
func TestWildModules(t *testing.T) {
	r := seeded(3)
	wild := func() int { return oneOf(r, oneOf(r, wilds...), r.Intn(3), r.Intn(66), -1) }
	for range 60000 {
		in := api.Instr{Op: 1 + r.Intn(34), Reg: wild(), Type: wild(), N: wild(), Flags: wild()}
		if r.Intn(20) == 0 {
			in.Op = wild()
		}
		for range r.Intn(4) {
			in.Args = append(in.Args, api.Value{Kind: oneOf(r, 1+r.Intn(5), wild()), N: oneOf(r, 0, wild()), Bits: oneOf(r, 0, r.Uint64())})
		}
		for range r.Intn(3) {
			in.To = append(in.To, wild())
		}
		checkByTable(t, around(in))
		checkByTable(t, api.Module{Funcs: []api.Func{{Name: "f", Params: []int{wild()}, Ret: wild(), Blocks: []api.Block{{Code: []api.Instr{in}}}}}})
	}
}

// checkRead: what is read from a text is sayable, is read from its own text as it is, and has that text once more.
func checkRead(t *testing.T, text string) (api.Module, bool) {
	t.Helper()
	m, fault := parse.Parse(text)
	if fault != (api.Fault{}) {
		return m, false
	}
	own := spell.Text(m)
	again, fault := parse.Parse(own)
	if !spell.Sayable(m) || fault != (api.Fault{}) || !ir.Same(again, m) {
		t.Fatalf("%q is read from %q as %v, %v; not %v", own, text, again, fault, m)
	}
	if twice := spell.Text(again); twice != own {
		t.Fatalf("%q is spelt as %q", own, twice)
	}
	return m, true
}

// P5.2: a sayable module that is read from its text is that module, however the text is laid.
func TestReadAgain(t *testing.T) {
	r := seeded(4)
	met := map[bool]int{}
	for range 10000 {
		m := r.module()
		text := spell.Text(m)
		for _, text := range []string{text, r.loose(text)} {
			got, read := checkRead(t, text)
			met[read]++
			if read && (!ir.Same(got, m) || spell.Text(got) != spell.Text(m)) {
				t.Fatalf("%q is read as %v; not %v", text, got, m)
			}
		}
	}
	if met[true] < 10000 || met[false] < 1000 {
		t.Error("too few texts are read, or not read:", met)
	}
}

// P5.2: texts that weren't spelt.
func TestReadTexts(t *testing.T) {
	const text = "global g 8\nextern put(i8,i64)void # remark\nfunc f( i8 , ptr ) i8 # a function\n\nb0 :\n%2=add nsw exact i8 %0,3\n\n store i8 %2, @g\nbrif %2,b1,b1\nb1:\n%3 = phi i8 b0 %2, b0 poison\n%4 = phi ptr\n%4 = zext i8 %3 to i64\ncall put(%3,%4)\n%5 = call f ( %3 , null )\n%6 = alloca 4\n%7 = gep %6, 18446744073709551615\nret i8 %5\nhalt\nret void 3\nret\nend"
	const own = "global g 8\nextern put(i8, i64) void\nfunc f(i8, ptr) i8\nb0:\n  %2 = add nsw exact i8 %0, 3\n  store i8 %2, @g\n  brif %2, b1, b1\nb1:\n  %3 = phi i8 b0 %2, b0 poison\n  %4 = phi ptr\n  %4 = zext i8 %3 to i64\n  call put(%3, %4)\n  %5 = call f(%3, null)\n  %6 = alloca 4\n  %7 = gep %6, 18446744073709551615\n  ret i8 %5\n  halt\n  ret void 3\n  ret\nend\n"
	m, read := checkRead(t, text)
	if !read {
		t.Fatal("not read")
	}
	checkText(t, m, own)
	if m, read = checkRead(t, "func f() void\nb0:\n"+strings.Repeat("call f()\n", api.MaxCode)+"end\nglobal g 64\nglobal f 1\nextern x() void"); !read {
		t.Fatal("not read")
	}
	checkText(t, m, "global g 64\nglobal f 1\nextern x() void\nfunc f() void\nb0:\n"+strings.Repeat("  call f()\n", api.MaxCode)+"end\n")
}

// P5.1: a text keeps nothing of the module.
func TestNothingKept(t *testing.T) {
	for _, m := range []api.Module{
		{Vars: []api.Var{{Name: "name", Size: 1}}},
		{Externs: []api.Extern{{Name: "name"}}},
		{Funcs: []api.Func{{Name: "name"}}},
	} {
		store := []byte("name")
		name := unsafe.String(unsafe.SliceData(store), len(store))
		want := spell.Text(m)
		for i := range m.Vars {
			m.Vars[i].Name = name
		}
		for i := range m.Externs {
			m.Externs[i].Name = name
		}
		for i := range m.Funcs {
			m.Funcs[i].Name = name
		}
		got := spell.Text(m)
		copy(store, "xxxx")
		if got != want {
			t.Errorf("%q isn't %q any more", got, want)
		}
	}
}
