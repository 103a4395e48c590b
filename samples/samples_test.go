package samples_test

import (
	"testing"

	"lathe/api"
	"lathe/ir"
	"lathe/loops"
	"lathe/run"
	"lathe/samples"
	"lathe/spell"
	"lathe/verify"
)

// Modules are right, and of all kinds: with every operation, with loops, and with blocks that aren't reachable.
func TestModules(t *testing.T) {
	r, ops, rounds, size := samples.New(1), map[int]int{}, 0, 0
	for range 1000 {
		m := r.Module()
		if code, at := verify.Check(m); code != api.OK {
			t.Fatal("not right", code, at, spell.Text(m))
		}
		for _, f := range m.Funcs {
			rounds += len(loops.Find(f))
			size += ir.Size(f)
			for _, b := range f.Blocks {
				for _, in := range b.Code {
					ops[in.Op]++
				}
			}
		}
	}
	for op := api.Add; op <= api.Halt; op++ {
		if ops[op] < 20 {
			t.Error("hardly any of", op, ops[op])
		}
	}
	if rounds < 500 || size < 20000 {
		t.Error("too few loops, or instructions:", rounds, size)
	}
}

// Runs of modules end in all ways, most of them well.
func TestRuns(t *testing.T) {
	r, met, long := samples.New(2), map[int]int{}, 0
	for range 2000 {
		m := r.Module()
		for range 5 {
			in := r.Input(m)
			out := run.Run(m, in.Fn, in.Args, in.Script, in.Fuel)
			met[out.Status]++
			if out.Status == api.Done && out.Steps > 40 {
				long++
			}
		}
	}
	if met[api.Done] < 4000 || met[api.Undef] < 300 || met[api.NoFuel] < 300 || met[api.Loose] < 50 || met[api.Deep] < 20 || met[api.Bad] > 0 || long < 500 {
		t.Error(met, long)
	}
}

// What is worse is found: here an addition for each subtraction.
func TestWorse(t *testing.T) {
	r, tally, found := samples.New(3), samples.Tally{}, 0
	for range 300 {
		m := r.Module()
		if in, is := r.Worse(m, m, 3, &tally); is {
			t.Fatal("a module is worse than it is", in, spell.Text(m))
		}
		other := ir.Copy(m)
		for _, f := range other.Funcs {
			for _, b := range f.Blocks {
				for i := range b.Code {
					if b.Code[i].Op == api.Sub {
						b.Code[i].Op = api.Add
					}
				}
			}
		}
		if _, is := r.Worse(m, other, 3, &tally); is {
			found++
		}
	}
	if found < 20 || tally[api.Done] < 500 {
		t.Error(found, tally)
	}
}

// Shares finds what is shared, be it spare room alone.
func TestShares(t *testing.T) {
	r := samples.New(4)
	for range 300 {
		f := r.Wild()
		if samples.Shares(ir.CopyFunc(f), ir.CopyFunc(f)) {
			t.Fatal("copies share memory")
		}
		if ir.Size(f) > 0 && !samples.Shares(ir.CopyFunc(f), f, f) {
			t.Fatal("what is the same shares no memory")
		}
	}
	list := make([]int, 2, 4)
	if !samples.Shares(api.Func{Params: list[:2]}, api.Func{Params: list[3:4]}) {
		t.Error("spare room")
	}
}

func TestRead(t *testing.T) {
	if m, ok := samples.Read("func f(i8) i8;b0:;ret i8 %0;end"); !ok || len(m.Funcs) != 1 {
		t.Error(m, ok)
	}
	for _, text := range []string{"func", "func f(i8) i8;b0:;ret i8 %1;end"} {
		if m, ok := samples.Read(text); ok || len(m.Funcs) != 0 {
			t.Error(m, ok)
		}
	}
}
