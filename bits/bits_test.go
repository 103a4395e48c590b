package bits_test

import (
	"math"
	"testing"

	"lathe/api"
	"lathe/bits"
)

type row struct {
	op, w, flags int
	a, b         uint64
	v            uint64
	end          int
}

func checkRows(t *testing.T, rows []row) {
	t.Helper()
	for _, r := range rows {
		if v, end := bits.Apply(r.op, r.w, r.flags, r.a, r.b); v != r.v || end != r.end {
			t.Errorf("Apply(%d, %d, %d, %d, %d): %d, %d; want %d, %d", r.op, r.w, r.flags, r.a, r.b, v, end, r.v, r.end)
		}
	}
}

func checkTable(t *testing.T, op, w, flags int, a, b uint64) {
	t.Helper()
	v, end := byTable(op, w, flags, a, b)
	checkRows(t, []row{{op, w, flags, a, b, v, end}})
}

// numbers are all of width w, if they are few, else those at the edges.
func numbers(w int) []uint64 {
	if w > 4 {
		return edges(w)
	}
	var all []uint64
	for v := range uint64(1) << w {
		all = append(all, v)
	}
	return all
}

var widths = []int{1, 2, 3, 4, 5, 7, 8, 9, 16, 31, 32, 33, 48, 63, 64}

// each goes over all pairs of numbers of all widths.
func each(do func(w int, a, b uint64)) {
	for _, w := range widths {
		for _, a := range numbers(w) {
			for _, b := range numbers(w) {
				do(w, a, b)
			}
		}
	}
}

// P1.1: the chapter's own examples.
func TestExamples(t *testing.T) {
	checkRows(t, []row{
		{api.Add, 8, 0, 200, 100, 44, ends},
		{api.Add, 8, api.Nuw, 200, 100, 0, poison},
		{api.Add, 8, api.Nsw, 200, 100, 44, ends},
		{api.Sdiv, 8, 0, 128, 255, 0, undefined},
		{api.Sdiv, 8, 0, 249, 2, 253, ends},
		{api.Srem, 8, 0, 249, 2, 255, ends},
		{api.Ashr, 8, api.Exact, 249, 1, 0, poison},
		{api.Shl, 8, api.Nsw, 64, 1, 0, poison},
		{api.Shl, 8, 0, 1, 8, 0, poison},
	})
	if v, ok := bits.Convert(api.Sext, 8, 16, 128); v != 65408 || !ok {
		t.Error("Sext", v, ok)
	}
	if v, ok := bits.Convert(api.Trunc, 16, 8, 511); v != 255 || !ok {
		t.Error("Trunc", v, ok)
	}
	if v, ok := bits.Convert(api.Zext, 8, 8, 1); v != 0 || ok {
		t.Error("Zext", v, ok)
	}
	if v := bits.Mask(64); v != math.MaxUint64 {
		t.Error("Mask", v)
	}
	if v := bits.Signed(1, 1); v != -1 {
		t.Error("Signed", v)
	}
}

// P1.1: numbers at which the table turns, written out.
func TestApplyTurns(t *testing.T) {
	const half, top = 1 << 63, math.MaxUint64
	checkRows(t, []row{
		{api.Add, 64, api.Nuw, top, 0, top, ends},
		{api.Add, 64, api.Nuw, top, 1, 0, poison},
		{api.Add, 64, api.Nsw, half - 1, 1, 0, poison},
		{api.Add, 64, api.Nsw, half, top, 0, poison},
		{api.Add, 64, api.Nsw, half - 1, half, top, ends},
		{api.Add, 1, api.Nsw, 1, 1, 0, poison},
		{api.Add, 8, api.Nsw | api.Nuw, 127, 1, 0, poison},
		{api.Sub, 64, api.Nuw, 0, 1, 0, poison},
		{api.Sub, 64, api.Nsw, half, 1, 0, poison},
		{api.Sub, 64, api.Nsw, top, half, half - 1, ends},
		{api.Mul, 64, api.Nuw, 1 << 32, 1 << 31, half, ends},
		{api.Mul, 64, api.Nuw, 1 << 32, 1 << 32, 0, poison},
		{api.Mul, 64, api.Nsw, 1 << 32, 1 << 31, 0, poison},
		{api.Mul, 64, api.Nsw, top - 1<<32 + 1, 1 << 31, half, ends},
		{api.Mul, 64, api.Nsw, half, top, 0, poison},
		{api.Mul, 64, api.Nsw, half, 1, half, ends},
		{api.Mul, 64, api.Nsw, half, half, 0, poison},
		{api.Mul, 1, api.Nsw, 1, 1, 0, poison},
		{api.Udiv, 64, 0, top, top, 1, ends},
		{api.Udiv, 8, 0, 128, 255, 0, ends},
		{api.Udiv, 8, api.Exact, 6, 3, 2, ends},
		{api.Udiv, 8, api.Exact, 7, 3, 0, poison},
		{api.Udiv, 8, api.Exact, 7, 0, 0, undefined},
		{api.Urem, 8, 0, 7, 0, 0, undefined},
		{api.Sdiv, 1, 0, 1, 1, 0, undefined},
		{api.Srem, 1, 0, 1, 1, 0, undefined},
		{api.Sdiv, 64, 0, half, top, 0, undefined},
		{api.Srem, 64, 0, half, top, 0, undefined},
		{api.Sdiv, 64, 0, half, 1, half, ends},
		{api.Sdiv, 8, 0, 127, 255, 129, ends},
		{api.Sdiv, 8, api.Exact, 128, 255, 0, undefined},
		{api.Sdiv, 8, api.Exact, 249, 2, 0, poison},
		{api.Sdiv, 8, api.Exact, 250, 2, 253, ends},
		{api.Srem, 8, 0, 7, 254, 1, ends},
		{api.Shl, 64, 0, 1, 63, half, ends},
		{api.Shl, 64, 0, 1, 64, 0, poison},
		{api.Shl, 64, 0, 0, top, 0, poison},
		{api.Shl, 64, api.Nuw, 1, 63, half, ends},
		{api.Shl, 64, api.Nuw, 2, 63, 0, poison},
		{api.Shl, 64, api.Nsw, 1, 63, 0, poison},
		{api.Shl, 64, api.Nsw, top, 63, half, ends},
		{api.Shl, 1, 0, 1, 1, 0, poison},
		{api.Lshr, 64, 0, half, 63, 1, ends},
		{api.Lshr, 64, api.Exact, half, 63, 1, ends},
		{api.Lshr, 8, api.Exact, 3, 1, 0, poison},
		{api.Lshr, 8, 0, 3, 8, 0, poison},
		{api.Ashr, 64, 0, half, 63, top, ends},
		{api.Ashr, 8, 0, 255, 7, 255, ends},
		{api.Ashr, 8, 0, 255, 8, 0, poison},
		{api.Slt, 64, 0, half, half - 1, 1, ends},
		{api.Sle, 64, 0, half - 1, half, 0, ends},
		{api.Ule, 64, 0, top, top, 1, ends},
		{api.Ult, 64, 0, top, top, 0, ends},
		{api.Slt, 1, 0, 1, 0, 1, ends},
	})
}

// P1.1: Apply by the table: all flags, all operations and their neighbours.
func TestApplyTable(t *testing.T) {
	each(func(w int, a, b uint64) {
		for op := 0; op <= 20; op++ {
			for flags := 0; flags <= 8; flags++ {
				checkTable(t, op, w, flags, a, b)
			}
		}
	})
}

// P1.1: of what is handed in the lowest w bits are looked at, no others.
func TestLowestBits(t *testing.T) {
	each(func(w int, a, b uint64) {
		if w == 64 {
			return
		}
		for op := api.Add; op <= api.Sle; op++ {
			v, end := bits.Apply(op, w, bits.Flags(op), a, b)
			above := uint64(math.MaxUint64) << w
			checkRows(t, []row{
				{op, w, bits.Flags(op), a | above, b, v, end},
				{op, w, bits.Flags(op), a, b | above, v, end},
				{op, w, bits.Flags(op), a | 1<<w, b | 1<<63, v, end},
			})
		}
		if v := bits.Signed(w, a|1<<w|1<<63); v != bits.Signed(w, a) {
			t.Errorf("Signed(%d) of %d looks above: %d", w, a, v)
		}
	})
}

// P1.1: wrong operations, widths and flags end with 3, also where a number would be undefined or poison.
func TestNoSuchOperation(t *testing.T) {
	for _, op := range []int{math.MinInt, -1, 0, api.Zext, api.Sext, api.Trunc, api.Select, api.Call, api.Halt, 35, 257, math.MaxInt} {
		checkRows(t, []row{{op, 8, 0, 3, 0, 0, noSuch}, {op, 64, 0, 3, 70, 0, noSuch}})
	}
	for op := api.Add; op <= api.Sle; op++ {
		for _, w := range []int{math.MinInt, -64, -1, 0, 65, 66, 128, 264, math.MaxInt} {
			checkRows(t, []row{{op, w, 0, 3, 0, 0, noSuch}})
		}
		for _, flags := range []int{math.MinInt, -1, 8, 16, 1 << 40, math.MaxInt, bits.Flags(op) | 8, 7 &^ bits.Flags(op)} {
			checkRows(t, []row{{op, 8, flags, 3, 0, 0, noSuch}, {op, 8, flags, 3, 9, 0, noSuch}})
		}
	}
}

// P1.1: Convert at all widths and their neighbours, with all operations.
func TestConvertTable(t *testing.T) {
	for op := -1; op <= 40; op++ {
		for from := -1; from <= 66; from++ {
			for to := -1; to <= 66; to++ {
				checkConvert(t, op, from, to)
			}
		}
	}
	for _, w := range []int{math.MinInt, -8, 72, math.MaxInt} {
		checkConvert(t, api.Zext, w, 8)
		checkConvert(t, api.Sext, 8, w)
		checkConvert(t, api.Trunc, w, 8)
		checkConvert(t, api.Trunc, 8, w)
	}
}

func checkConvert(t *testing.T, op, from, to int) {
	t.Helper()
	for _, v := range []uint64{0, 1, 127, 128, 0xa5a5a5a5a5a5a5a5, 0x5a5a5a5a5a5a5a5a, 1 << 63, math.MaxUint64} {
		want, wantOK := convertedByText(op, from, to, v)
		if got, ok := bits.Convert(op, from, to, v); got != want || ok != wantOK {
			t.Errorf("Convert(%d, %d, %d, %d): %d, %v; want %d, %v", op, from, to, v, got, ok, want, wantOK)
		}
	}
}

func convertedByText(op, from, to int, v uint64) (uint64, bool) {
	if from < 1 || from > 64 || to < 1 || to > 64 {
		return 0, false
	}
	switch {
	case op == api.Zext && from < to:
		return lowest(from, v).Uint64(), true
	case op == api.Sext && from < to:
		return wrapped(to, withSign(from, v)), true
	case op == api.Trunc && to < from:
		return wrapped(to, lowest(from, v)), true
	}
	return 0, false
}

// P1.1: Mask and Signed at every width, and at what is none.
func TestMaskSigned(t *testing.T) {
	for _, w := range []int{math.MinInt, -64, -1, 0, 65, 66, 128, math.MaxInt} {
		if bits.Mask(w) != 0 || bits.Signed(w, math.MaxUint64) != 0 || bits.Signed(w, 1) != 0 {
			t.Error("no width", w, bits.Mask(w), bits.Signed(w, math.MaxUint64), bits.Signed(w, 1))
		}
	}
	for w := 1; w <= 64; w++ {
		if v := power(w); bits.Mask(w) != v.Sub(v, whole(1)).Uint64() {
			t.Error("Mask", w, bits.Mask(w))
		}
		for _, v := range edges(w) {
			if bits.Signed(w, v) != withSign(w, v).Int64() {
				t.Error("Signed", w, v, bits.Signed(w, v))
			}
		}
	}
}

// P1.1: Flags of every operation, and of what is none.
func TestFlags(t *testing.T) {
	for op := -5; op <= 300; op++ {
		if bits.Flags(op) != allowed(op) {
			t.Error(op, bits.Flags(op))
		}
	}
	for _, op := range []int{math.MinInt, math.MaxInt} {
		if bits.Flags(op) != 0 {
			t.Error(op, bits.Flags(op))
		}
	}
}
