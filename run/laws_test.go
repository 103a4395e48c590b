package run_test

import (
	"math"
	"slices"
	"testing"

	"lathe/api"
	"lathe/ir"
	"lathe/refine"
	"lathe/run"
	"lathe/verify"
)

func sameVars(a, b [][]api.Byte) bool {
	return slices.EqualFunc(a, b, slices.Equal[[]api.Byte])
}

func sameEvent(a, b api.Event) bool {
	return a.Extern == b.Extern && slices.Equal(a.Args, b.Args) && sameVars(a.Vars, b.Vars)
}

func same(a, b api.Outcome) bool {
	return a.Status == b.Status && a.Ret == b.Ret && a.Steps == b.Steps && slices.EqualFunc(a.Events, b.Events, sameEvent) && sameVars(a.Vars, b.Vars)
}

// beginning tells whether events are the first ones of others.
func beginning(a, b []api.Event) bool {
	return len(a) <= len(b) && slices.EqualFunc(a, b[:len(a)], sameEvent)
}

func copyScript(script []api.Reply) []api.Reply {
	all := slices.Clone(script)
	for i := range all {
		all[i].Writes = slices.Clone(all[i].Writes)
	}
	return all
}

func sameScript(a, b []api.Reply) bool {
	return slices.EqualFunc(a, b, func(a, b api.Reply) bool { return a.Ret == b.Ret && slices.Equal(a.Writes, b.Writes) })
}

// checkByWords holds a run against the chapter's words written once more, and asks that what is handed in stays.
func checkByWords(t *testing.T, m api.Module, fn int, args []api.Val, script []api.Reply, fuel int) api.Outcome {
	t.Helper()
	oldModule, oldArgs, oldScript := ir.Copy(m), slices.Clone(args), copyScript(script)
	got, want := run.Run(m, fn, args, script, fuel), runByWords(m, fn, args, script, fuel)
	if !same(got, want) {
		t.Fatalf("Run of %d of %v with %v, %v, %d:\n%v, not\n%v", fn, m, args, script, fuel, got, want)
	}
	if !ir.Same(m, oldModule) || !slices.Equal(args, oldArgs) || !sameScript(script, oldScript) {
		t.Fatal("what is handed in is changed")
	}
	return got
}

// checkOften asks that statuses were met, each so often.
func checkOften(t *testing.T, met map[int]int, times int, statuses ...int) {
	t.Helper()
	for _, status := range statuses {
		if met[status] < times {
			t.Error("hardly any run ends with", status, met)
		}
	}
}

// P11.1: right modules, with arguments and scripts of any data, by the words.
func TestRunsByWords(t *testing.T) {
	r, met, told := seeded(111), map[int]int{}, 0
	for range 20000 {
		m := r.module()
		if code, place := verify.Check(m); code != api.OK {
			t.Fatal("a module that isn't right:", code, place, m)
		}
		fn := r.Intn(len(m.Funcs))
		out := checkByWords(t, m, fn, r.args(m, fn), r.script(m), oneOf(r, r.Intn(60), 300, 2000))
		met[out.Status]++
		if out.Status == api.Done && len(out.Events) > 1 && out.Steps > 15 {
			told++
		}
	}
	checkOften(t, met, 200, api.Done, api.Undef, api.NoFuel, api.Deep, api.Loose)
	if told < 100 {
		t.Error("hardly any run is of many steps and events", told)
	}
}

// P11.1: modules of which one field is changed: most aren't right, and so their runs are bad.
func TestSpoiltByWords(t *testing.T) {
	r, met := seeded(112), map[int]int{}
	for range 20000 {
		m := r.module()
		r.spoil(&m)
		fn := r.Intn(len(m.Funcs))
		out := checkByWords(t, m, fn, r.args(m, fn), r.script(m), 200)
		if code, _ := verify.Check(m); code != api.OK && !same(out, api.Outcome{Status: api.Bad}) {
			t.Fatal(out, m)
		}
		met[out.Status]++
	}
	checkOften(t, met, 100, api.Done, api.Undef, api.NoFuel, api.Deep, api.Bad)
}

// P11.2: each fuel, from none to more than enough.
func TestEachFuel(t *testing.T) {
	r, met := seeded(113), map[int]int{}
	for range 1500 {
		m := r.module()
		fn := r.Intn(len(m.Funcs))
		args, script := r.args(m, fn), r.script(m)
		out := run.Run(m, fn, args, script, 400)
		met[out.Status]++
		for fuel := -1; fuel <= out.Steps; fuel++ {
			less := run.Run(m, fn, args, script, fuel)
			if less.Steps > max(fuel, 0) || !beginning(less.Events, out.Events) {
				t.Fatal(fuel, less, out, m)
			}
			if isShort := fuel < out.Steps; isShort && (less.Status != api.NoFuel || less.Steps != max(fuel, 0)) || !isShort && !same(less, out) {
				t.Fatal(fuel, less, out, m)
			}
		}
		for _, more := range []int{401, 402, 1000, math.MaxInt} {
			if out.Status != api.NoFuel && !same(run.Run(m, fn, args, script, more), out) {
				t.Fatal("with", more, "it isn't", out, m)
			}
		}
	}
	checkOften(t, met, 10, api.Done, api.Undef, api.NoFuel, api.Deep, api.Loose)
}

// P11.3 and P12.3: with arguments that refine others the outcome refines the other. But for one thing that the chapter's rules rule out: where a call answers the address of a block that is no more, it answers poison; if that address is any with the other arguments, it answers any there (TestLostAddress).
func TestBetterStaysBetter(t *testing.T) {
	r, met, better, lost := seeded(114), map[int]int{}, 0, 0
	for range 30000 {
		m := r.module()
		fn := r.Intn(len(m.Funcs))
		script, was, by := r.script(m), []api.Val{}, []api.Val{}
		for _, typ := range m.Funcs[fn].Params {
			v := oneOf(r, r.val(m, typ), api.Val{}, api.Val{Kind: api.IsAny})
			was, by = append(was, v), append(by, r.better(m, typ, v))
		}
		out, refined := run.Run(m, fn, was, script, 500), run.Run(m, fn, by, script, 500)
		if !refine.Refines(out, refined) {
			if machineOf(m, fn, by, script, 500).isLost {
				lost++
				continue
			}
			t.Fatalf("Run of %d of %v with %v, %v: %v; but with %v: %v", fn, m, was, script, out, by, refined)
		}
		met[out.Status]++
		if !same(out, refined) {
			better++
		}
	}
	checkOften(t, met, 300, api.Done, api.Undef, api.NoFuel, api.Deep, api.Loose)
	if better < 2000 {
		t.Error("hardly any outcome is better", better)
	}
	if lost > 10 {
		t.Error("many addresses are lost", lost)
	}
}

// P1: what is answered hangs on what is handed in alone: two answers are alike, and share nothing.
func TestAnswersShareNothing(t *testing.T) {
	r, told := seeded(115), 0
	for range 3000 {
		m := r.module()
		fn := r.Intn(len(m.Funcs))
		args, script := r.args(m, fn), r.script(m)
		one, other := run.Run(m, fn, args, script, 300), run.Run(m, fn, args, script, 300)
		if !same(one, other) {
			t.Fatal(one, other)
		}
		checkApart(t, one, m)
		if !same(other, run.Run(m, fn, args, script, 300)) {
			t.Fatal("a change of one answer changes another one", other)
		}
		told += len(other.Events)
	}
	if told < 1000 {
		t.Error("hardly any events", told)
	}
}

// checkApart changes each byte and each value of an answer, and asks whether all others stay.
func checkApart(t *testing.T, out api.Outcome, m api.Module) {
	t.Helper()
	var lists [][]api.Byte
	lists = append(lists, out.Vars...)
	for _, e := range out.Events {
		lists = append(lists, e.Vars...)
		for i := range cap(e.Args) {
			e.Args[:cap(e.Args)][i] = api.Val{Kind: -7}
		}
	}
	for n, list := range lists {
		// Each byte gets the number of its list; if lists shared memory, an earlier one would have the later one's.
		list = list[:cap(list)]
		for i := range list {
			list[i] = api.Byte{Kind: n}
		}
	}
	for n, list := range lists {
		for _, b := range list {
			if b.Kind != n {
				t.Fatal("two lists share memory", m)
			}
		}
	}
}

// room lays a list at the beginning of a greater one, and answers whether that one's end is as it was.
func room[T comparable](list []T, end T) ([]T, func() bool) {
	n, all := len(list), append(slices.Clone(list), end, end)
	return all[:n], func() bool { return all[n] == end && all[n+1] == end }
}

// P1: what is handed in stays, spare room too.
func TestSpareRoomStays(t *testing.T) {
	m := read(t, "global g 2;extern x(i8) i8;func f(i8, i8) i8;b0:;%2 = alloca 1;%3 = call x(%0);%4 = call x(%3);ret i8 %1;end")
	var asked [4]func() bool
	var args []api.Val
	var writes []api.Write
	args, asked[0] = room([]api.Val{number(1)}, api.Val{Kind: api.IsInt, Bits: 99})
	writes, asked[1] = room([]api.Write{{Bits: 5}}, api.Write{Bits: 77})
	m.Vars, asked[2] = room(m.Vars, api.Var{Size: 9})
	m.Funcs[0].Params, asked[3] = room(m.Funcs[0].Params, 8)
	// What lies behind the lists' ends is no argument, no reply and no write.
	script := append(make([]api.Reply, 0, 3), api.Reply{Ret: 3, Writes: writes}, api.Reply{Ret: 4, Writes: writes})[:1]
	out := checkByWords(t, m, 0, args, script, enough)
	if out.Ret != poison || len(out.Events) != 2 || out.Events[1].Args[0] != number(3) || !sameVars(out.Vars, [][]api.Byte{numbers(5, 0)}) {
		t.Error(out)
	}
	for i, stays := range asked {
		if !stays() {
			t.Error("spare room is changed", i)
		}
	}
}
