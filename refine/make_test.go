package refine_test

import (
	"math"
	"math/rand"
	"slices"

	"lathe/api"
)

// maker makes arguments; seeded, the same ones in every run.
type maker struct{ *rand.Rand }

func seeded(n int64) maker {
	return maker{rand.New(rand.NewSource(n))}
}

func oneOf[T any](r maker, all ...T) T {
	return all[r.Intn(len(all))]
}

// kinds are those of values and of bytes, which have the same numbers, and some that there aren't.
func kinds() []int {
	return []int{0, 1, 2, 3, -1, 4, 257, 1 << 32, math.MinInt, math.MaxInt}
}

func statuses() []int {
	return []int{api.Done, api.Undef, api.NoFuel, api.Deep, api.Bad, api.Loose, 6, -1, 256, 1 << 32, math.MinInt, math.MaxInt}
}

// values have each kind with each field, whether or not it matters.
func values() []api.Val {
	var all []api.Val
	for _, kind := range kinds() {
		for _, v := range []api.Val{
			{}, {Bits: 1}, {Bits: 1 << 32}, {Bits: math.MaxUint64},
			{Block: 1}, {Block: -1}, {Off: 1}, {Off: -1}, {Off: math.MinInt64},
			{Bits: 1, Block: 1}, {Bits: 1, Off: 1}, {Block: 1, Off: 1}, {Bits: 1, Block: 1, Off: 1},
		} {
			v.Kind = kind
			all = append(all, v)
		}
	}
	return all
}

func bytes() []api.Byte {
	var all []api.Byte
	for _, kind := range kinds() {
		for _, b := range []api.Byte{
			{}, {Bits: 1}, {Bits: 255}, {Block: 1}, {Block: -1}, {Off: 1}, {Off: -1}, {I: 1}, {I: 7}, {I: -1},
			{Bits: 1, Block: 1}, {Block: 1, Off: 1}, {Block: 1, Off: 1, I: 1}, {Bits: 1, Block: 1, Off: 1, I: 1},
		} {
			b.Kind = kind
			all = append(all, b)
		}
	}
	return all
}

func (r maker) val() api.Val {
	if r.Intn(4) == 0 {
		return oneOf(r, values()...)
	}
	return oneOf(r, poison, some, number(1), number(2), addr(1, 0), addr(1, 1))
}

func (r maker) byte() api.Byte {
	if r.Intn(4) == 0 {
		return oneOf(r, bytes()...)
	}
	return oneOf(r, api.Byte{}, anyByte, byteOf(1), byteOf(2), piece(1, 0, 0), piece(1, 0, 1))
}

// list has some of what one makes.
func list[T any](r maker, most int, one func() T) []T {
	var all []T
	for range r.Intn(most + 1) {
		all = append(all, one())
	}
	return all
}

func (r maker) vars() [][]api.Byte {
	return list(r, 2, func() []api.Byte { return list(r, 3, r.byte) })
}

func (r maker) event() api.Event {
	return api.Event{Extern: oneOf(r, 0, 0, 1, -1, math.MaxInt), Args: list(r, 2, r.val), Vars: r.vars()}
}

func (r maker) outcome() api.Outcome {
	status := oneOf(r, api.Done, api.Done, api.Undef, api.NoFuel, api.Deep, api.Loose, oneOf(r, statuses()...))
	return api.Outcome{Status: status, Ret: r.val(), Events: list(r, 3, r.event), Vars: r.vars(), Steps: r.Intn(9)}
}

func copyVars(vars [][]api.Byte) [][]api.Byte {
	all := slices.Clone(vars)
	for i := range all {
		all[i] = slices.Clone(all[i])
	}
	return all
}

func copyOf(o api.Outcome) api.Outcome {
	o.Vars, o.Events = copyVars(o.Vars), slices.Clone(o.Events)
	for i, e := range o.Events {
		o.Events[i].Args, o.Events[i].Vars = slices.Clone(e.Args), copyVars(e.Vars)
	}
	return o
}

// otherVal is mostly one that refines the value.
func (r maker) otherVal(v api.Val) api.Val {
	by := r.val()
	if r.Intn(20) > 0 && !valueByWords(v, by) {
		return v
	}
	return by
}

func (r maker) otherByte(b api.Byte) api.Byte {
	by := r.byte()
	if r.Intn(20) > 0 && !byteByWords(b, by) {
		return b
	}
	return by
}

func (r maker) otherVars(vars [][]api.Byte) [][]api.Byte {
	vars = copyVars(vars)
	for _, list := range vars {
		for i, b := range list {
			list[i] = r.otherByte(b)
		}
	}
	if len(vars) > 0 && r.Intn(30) == 0 {
		vars[0] = append(vars[0], r.byte())
	}
	if r.Intn(30) == 0 {
		vars = append(vars, nil)
	}
	return vars
}

func (r maker) otherEvent(e api.Event) api.Event {
	e.Args, e.Vars = slices.Clone(e.Args), r.otherVars(e.Vars)
	for i, v := range e.Args {
		e.Args[i] = r.otherVal(v)
	}
	switch r.Intn(30) {
	case 0:
		e.Extern++
	case 1:
		e.Args = append(e.Args, r.val())
	}
	return e
}

// other is an outcome much like one, and better in some places; so that many refine it, and many nearly do.
func (r maker) other(o api.Outcome) api.Outcome {
	o.Ret, o.Vars, o.Events, o.Steps = r.otherVal(o.Ret), r.otherVars(o.Vars), slices.Clone(o.Events), r.Intn(9)
	for i, e := range o.Events {
		o.Events[i] = r.otherEvent(e)
	}
	switch r.Intn(5) {
	case 0:
		o.Events = append(o.Events, r.event())
	case 1:
		o.Events = o.Events[:r.Intn(len(o.Events)+1)]
	}
	if r.Intn(2) == 0 {
		o.Status = oneOf(r, statuses()...)
	}
	return o
}
