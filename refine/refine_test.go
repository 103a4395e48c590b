package refine_test

import (
	"math"
	"slices"
	"testing"

	"lathe/api"
	"lathe/refine"
)

var (
	poison  = api.Val{}
	some    = api.Val{Kind: api.IsAny}
	null    = addr(-1, 0)
	anyByte = api.Byte{Kind: api.ByteAny}
)

func number(bits uint64) api.Val { return api.Val{Kind: api.IsInt, Bits: bits} }

func addr(block int, off int64) api.Val {
	return api.Val{Kind: api.IsAddr, Block: block, Off: off}
}

func byteOf(bits byte) api.Byte { return api.Byte{Kind: api.ByteInt, Bits: bits} }

func piece(block int, off int64, i int) api.Byte {
	return api.Byte{Kind: api.ByteAddr, Block: block, Off: off, I: i}
}

// one is a single global of these bytes.
func one(bytes ...api.Byte) [][]api.Byte { return [][]api.Byte{bytes} }

// call is an event without globals.
func call(extern int, args ...api.Val) api.Event { return api.Event{Extern: extern, Args: args} }

func ended(status int, events ...api.Event) api.Outcome {
	return api.Outcome{Status: status, Events: events}
}

func check(t *testing.T, o, by api.Outcome, want bool) {
	t.Helper()
	if got := refine.Refines(o, by); got != want {
		t.Errorf("Refines is %v:\n%v\n%v", got, o, by)
	}
}

// The chapter's examples.
func TestExamples(t *testing.T) {
	for _, by := range []api.Val{number(5), some, poison} {
		if !refine.Value(poison, by) {
			t.Error(by)
		}
	}
	if !refine.Value(some, number(5)) || !refine.Value(number(5), number(5)) {
		t.Error("any by 5, 5 by 5")
	}
	if refine.Value(some, poison) || refine.Value(number(5), some) || refine.Value(number(5), number(6)) {
		t.Error("any by poison, 5 by any, 5 by 6")
	}
	x, y := call(0, number(3)), call(1, number(1))
	for _, status := range statuses() {
		check(t, ended(api.Undef), ended(status), status != api.Bad)
		check(t, ended(api.Undef), ended(status, x, y), status != api.Bad)
	}
	check(t, ended(api.Undef, x), ended(api.Done, x, y), true)
	check(t, ended(api.Undef, x), ended(api.Done), false)
}

// P12.1: what each kind of value is refined by; fields that a kind doesn't have don't make poison or any otherwise.
func TestValues(t *testing.T) {
	stray := api.Val{Kind: api.IsAny, Bits: 7, Block: 7, Off: 7}
	dirty := api.Val{Bits: 7, Block: 7, Off: 7}
	odd := api.Val{Kind: 4, Bits: 7}
	all := []api.Val{poison, dirty, some, stray, number(0), number(7), null, addr(7, 0), addr(7, 7), odd}
	for i, want := range []string{
		"1111111111", "1111111111", "0011111111", "0011111111",
		"0000100000", "0000010000", "0000001000", "0000000100", "0000000010", "0000000001",
	} {
		for j, by := range all {
			if got := refine.Value(all[i], by); got != (want[j] == '1') {
				t.Error(all[i], by, got)
			}
		}
	}
}

// P12.1: each field of a number and of an address counts.
func TestValueFields(t *testing.T) {
	for _, v := range []api.Val{number(7), addr(7, 7), {Kind: 4}} {
		for _, by := range []api.Val{
			{Kind: v.Kind, Bits: v.Bits + 1, Block: v.Block, Off: v.Off},
			{Kind: v.Kind, Bits: v.Bits ^ 1<<63, Block: v.Block, Off: v.Off},
			{Kind: v.Kind, Bits: v.Bits, Block: v.Block - 1, Off: v.Off},
			{Kind: v.Kind, Bits: v.Bits, Block: v.Block, Off: v.Off + math.MinInt64},
			{Kind: v.Kind + 1<<32, Bits: v.Bits, Block: v.Block, Off: v.Off},
		} {
			if refine.Value(v, by) || refine.Value(by, v) || !refine.Value(by, by) {
				t.Error(v, by)
			}
		}
	}
}

// P12.1: what each kind of byte is refined by: one that is any by no piece of an address, nor by a kind that there isn't.
func TestBytes(t *testing.T) {
	stray := api.Byte{Kind: api.ByteAny, Bits: 7, Block: 7, Off: 7, I: 7}
	dirty := api.Byte{Bits: 7, I: 3}
	odd := api.Byte{Kind: 4, Bits: 7}
	all := []api.Byte{{}, dirty, anyByte, stray, byteOf(0), byteOf(7), piece(-1, 0, 0), piece(7, 7, 0), piece(7, 7, 1), odd}
	for i, want := range []string{
		"1111111111", "1111111111", "0011110000", "0011110000",
		"0000100000", "0000010000", "0000001000", "0000000100", "0000000010", "0000000001",
	} {
		for j, by := range all {
			if got := refine.Byte(all[i], by); got != (want[j] == '1') {
				t.Error(all[i], by, got)
			}
		}
	}
}

// P12.1: each field of a number and of a piece counts.
func TestByteFields(t *testing.T) {
	for _, b := range []api.Byte{byteOf(7), piece(7, 7, 7), {Kind: -1}} {
		for _, by := range []api.Byte{
			{Kind: b.Kind, Bits: b.Bits + 1, Block: b.Block, Off: b.Off, I: b.I},
			{Kind: b.Kind, Bits: b.Bits, Block: b.Block + 1, Off: b.Off, I: b.I},
			{Kind: b.Kind, Bits: b.Bits, Block: b.Block, Off: b.Off + 1, I: b.I},
			{Kind: b.Kind, Bits: b.Bits, Block: b.Block, Off: b.Off, I: b.I + 256},
			{Kind: b.Kind + 1<<32, Bits: b.Bits, Block: b.Block, Off: b.Off, I: b.I},
		} {
			if refine.Byte(b, by) || refine.Byte(by, b) || !refine.Byte(by, by) {
				t.Error(b, by)
			}
		}
	}
}

// P12.1: by each status which other one may stand there, as many events told, fewer, and more.
func TestStatuses(t *testing.T) {
	all := []int{api.Done, api.Undef, api.NoFuel, api.Deep, api.Bad, api.Loose, 6, -1}
	none, each, right, open := "00000000", "11111111", "11110111", "00100100"
	x, y, z := call(0, number(3)), call(1), call(2, some)
	for _, c := range []struct {
		events []api.Event
		want   [8]string // of each status that is refined, by each one
	}{
		{[]api.Event{x, y}, [8]string{"10100100", right, right, right, each, right, right, right}},
		{[]api.Event{x}, [8]string{open, open, right, open, each, open, right, right}},
		{nil, [8]string{open, open, right, open, each, open, right, right}},
		{[]api.Event{x, y, z}, [8]string{none, right, right, right, each, right, right, right}},
	} {
		for i, o := range all {
			for j, by := range all {
				check(t, ended(o, x, y), ended(by, c.events...), c.want[i][j] == '1')
			}
		}
	}
}

// P12.1: events that aren't refined are asked of every status but of Bad, whichever of them they are.
func TestTogether(t *testing.T) {
	x, y, worse := call(0, number(3)), call(1, some), call(0, some)
	for _, o := range statuses() {
		for _, by := range statuses() {
			for _, c := range [][2][]api.Event{
				{{x}, {worse}}, {{x}, {y}}, {{x, y}, {worse}}, {{x}, {worse, y}}, {{y, x}, {y, worse}}, {{y, y, x}, {y, y, worse, y}},
			} {
				check(t, ended(o, c[0]...), ended(by, c[1]...), o == api.Bad)
			}
		}
	}
}

// P12.1: an event by its Extern, its Args and its Vars, place by place, the one way and not the other.
func TestEvents(t *testing.T) {
	for _, c := range []struct {
		e, by       api.Event
		is, isOther bool
	}{
		{call(0), call(0), true, true},
		{call(0), call(1), false, false},
		{call(-1), call(math.MaxInt), false, false},
		{call(0, number(1)), call(0), false, false},
		{call(0, poison), call(0), false, false},
		{call(0, poison, some), call(0, some, number(1)), true, false},
		{call(0, number(1), some), call(0, number(1), addr(0, 0)), true, false},
		{call(0, some, number(1)), call(0, number(1), some), false, false},
		{api.Event{Vars: one(anyByte)}, api.Event{Vars: one(byteOf(1))}, true, false},
		{api.Event{Vars: one(anyByte)}, api.Event{Vars: one(piece(0, 0, 0))}, false, false},
		{api.Event{Vars: one(byteOf(1), api.Byte{})}, api.Event{Vars: one(byteOf(1), piece(0, 0, 0))}, true, false},
		{api.Event{Vars: one(byteOf(1), byteOf(2))}, api.Event{Vars: one(byteOf(1), byteOf(3))}, false, false},
		{api.Event{Vars: one(api.Byte{})}, api.Event{Vars: one(api.Byte{}, api.Byte{})}, false, false},
		{api.Event{Vars: one()}, api.Event{}, false, false},
		{api.Event{Vars: [][]api.Byte{{}, {anyByte}}}, api.Event{Vars: [][]api.Byte{{anyByte}, {}}}, false, false},
		{api.Event{Vars: [][]api.Byte{{}, {anyByte}}}, api.Event{Vars: [][]api.Byte{nil, {byteOf(9)}}}, true, false},
	} {
		for _, status := range []int{api.Done, api.Undef, api.NoFuel, api.Deep, api.Loose} {
			check(t, ended(status, c.e), ended(status, c.by), c.is)
			check(t, ended(status, c.by), ended(status, c.e), c.isOther)
		}
	}
}

// P12.1: what is done by what it answers and by its globals; steps don't count.
func TestDone(t *testing.T) {
	done := func(ret api.Val, vars ...[]api.Byte) api.Outcome { return api.Outcome{Ret: ret, Vars: vars} }
	b := []api.Byte{byteOf(1), anyByte}
	for _, c := range []struct {
		o, by       api.Outcome
		is, isOther bool
	}{
		{done(number(5), b), done(number(5), b), true, true},
		{done(poison), done(some), true, false},
		{done(some), done(number(5)), true, false},
		{done(number(6)), done(number(5)), false, false},
		{done(null), done(poison), false, true},
		{done(some, b), done(some, []api.Byte{byteOf(1), byteOf(2)}), true, false},
		{done(some, b), done(number(1), []api.Byte{byteOf(2), byteOf(2)}), false, false},
		{done(some, b), done(some, []api.Byte{byteOf(1)}), false, false},
		{done(some, b), done(some, b, nil), false, false},
		{done(some, b, nil), done(some, nil, b), false, false},
		{done(some), done(poison, b), false, false},
	} {
		c.by.Steps = 77
		check(t, c.o, c.by, c.is)
		check(t, c.by, c.o, c.isOther)
	}
}

// P12.1: what it answers and its globals don't count where one of both isn't done.
func TestDoneAlone(t *testing.T) {
	x := call(0)
	for _, o := range statuses() {
		for _, by := range statuses() {
			if o == api.Done && by == api.Done {
				continue
			}
			want := refinesByWords(ended(o, x), ended(by, x))
			was := api.Outcome{Status: o, Events: []api.Event{x}, Ret: number(1), Vars: one(byteOf(1)), Steps: 3}
			other := api.Outcome{Status: by, Events: []api.Event{x}, Ret: poison, Vars: nil, Steps: 4}
			check(t, was, other, want)
			was.Vars, other.Ret, other.Vars = nil, number(2), [][]api.Byte{nil, {anyByte}}
			check(t, was, other, want)
		}
	}
}

// P1: lists that are empty and such that are nil are alike; what lies in spare room is no part of a list, and stays.
func TestRoom(t *testing.T) {
	empty := api.Outcome{Events: []api.Event{}, Vars: [][]api.Byte{}}
	check(t, empty, api.Outcome{}, true)
	check(t, api.Outcome{}, empty, true)
	check(t, ended(api.Done, api.Event{Args: []api.Val{}, Vars: [][]api.Byte{{}}}), ended(api.Done, api.Event{Vars: [][]api.Byte{nil}}), true)
	events := []api.Event{call(0, number(3), number(4)), call(1)}
	short := ended(api.Undef, api.Event{Args: events[0].Args[:1]})
	check(t, short, ended(api.Done, call(0, number(3))), true)
	check(t, ended(api.Undef, events[1:]...), ended(api.Done, events[:1]...), false)
	check(t, ended(api.Done, events...), ended(api.Done, events...), true)
	if !sameEvent(events[0], call(0, number(3), number(4))) || !slices.Equal(short.Events[0].Args[:2], events[0].Args) {
		t.Error("what is handed in is changed", events)
	}
}

// P12.1: the last one of very many events and of very many bytes counts, too.
func TestGreat(t *testing.T) {
	const many = 1 << 20
	events := slices.Repeat([]api.Event{call(0, number(3))}, many)
	last := append(slices.Clone(events[1:]), call(0, some))
	check(t, ended(api.Undef, last...), ended(api.Done, events...), true)
	check(t, ended(api.Undef, events...), ended(api.Done, last...), false)
	bytes := slices.Repeat([]api.Byte{byteOf(3)}, many)
	end := append(slices.Clone(bytes[1:]), anyByte)
	check(t, api.Outcome{Vars: one(end...)}, api.Outcome{Vars: one(bytes...)}, true)
	check(t, api.Outcome{Vars: one(bytes...)}, api.Outcome{Vars: one(end...)}, false)
}
