package bits_test

import (
	"math"
	"testing"

	"lathe/api"
	"lathe/bits"
)

// number is what Apply makes where it must end with a number.
func number(t *testing.T, op, w int, a, b uint64) uint64 {
	t.Helper()
	v, end := bits.Apply(op, w, 0, a, b)
	if end != ends {
		t.Errorf("Apply(%d, %d, 0, %d, %d) ends with %d", op, w, a, b, end)
	}
	return v
}

// P1.2: sums and products don't hang on the order, whatever flags they have.
func TestOrder(t *testing.T) {
	each(func(w int, a, b uint64) {
		for _, op := range []int{api.Add, api.Mul} {
			for flags := range 4 {
				v, end := bits.Apply(op, w, flags, a, b)
				checkRows(t, []row{{op, w, flags, b, a, v, end}})
			}
		}
	})
}

// P1.2: of three, too, it doesn't matter which two come first.
func TestOrderOfThree(t *testing.T) {
	for _, w := range []int{1, 3, 8, 64} {
		for _, a := range numbers(w) {
			for _, b := range numbers(w) {
				for _, c := range numbers(w) {
					for _, op := range []int{api.Add, api.Mul} {
						left := number(t, op, w, number(t, op, w, a, b), c)
						if right := number(t, op, w, a, number(t, op, w, b, c)); left != right {
							t.Error(op, w, a, b, c, left, right)
						}
					}
				}
			}
		}
	}
}

// P1.2: a difference undoes a sum, and a sum a difference.
func TestDifference(t *testing.T) {
	each(func(w int, a, b uint64) {
		if v := number(t, api.Sub, w, number(t, api.Add, w, a, b), b); v != a {
			t.Error("sum", w, a, b, v)
		}
		if v := number(t, api.Add, w, number(t, api.Sub, w, a, b), b); v != a {
			t.Error("difference", w, a, b, v)
		}
	})
}

// P1.2: a quotient times the divisor, and the rest, are the number.
func TestQuotient(t *testing.T) {
	pairs := [][2]int{{api.Udiv, api.Urem}, {api.Sdiv, api.Srem}}
	each(func(w int, a, b uint64) {
		for _, p := range pairs {
			q, end := bits.Apply(p[0], w, 0, a, b)
			r, other := bits.Apply(p[1], w, 0, a, b)
			if end != other {
				t.Error("quotient and rest end otherwise", w, a, b, end, other)
			}
			if end != ends {
				continue
			}
			if v := number(t, api.Add, w, number(t, api.Mul, w, q, b), r); v != a {
				t.Error(p[0], w, a, b, v)
			}
			checkRest(t, p[1], w, a, b, r)
		}
	})
}

// checkRest: a rest is nearer to 0 than the divisor; with a sign it has the number's.
func checkRest(t *testing.T, op, w int, a, b, r uint64) {
	t.Helper()
	if op == api.Urem {
		if r >= b {
			t.Error("rest", w, a, b, r)
		}
		return
	}
	s, rest := bits.Signed(w, a), bits.Signed(w, r)
	if rest != 0 && (rest < 0) != (s < 0) {
		t.Error("sign of rest", w, a, b, r)
	}
	if withSign(w, r).CmpAbs(withSign(w, b)) >= 0 {
		t.Error("signed rest", w, a, b, r)
	}
}

// P1.2: a flag changes no number, it only makes poison; and more flags let no more through.
func TestFlagsOnlyPoison(t *testing.T) {
	each(func(w int, a, b uint64) {
		for op := api.Add; op <= api.Sle; op++ {
			plain, plainEnd := bits.Apply(op, w, 0, a, b)
			_, allEnd := bits.Apply(op, w, bits.Flags(op), a, b)
			for flags := range 8 {
				if flags&^bits.Flags(op) != 0 {
					continue
				}
				v, end := bits.Apply(op, w, flags, a, b)
				same := v == plain && end == plainEnd
				if !same && (plainEnd != ends || end != poison || v != 0) {
					t.Error("flags", op, w, flags, a, b, v, end)
				}
				if allEnd == ends && end != ends {
					t.Error("fewer flags, more poison", op, w, flags, a, b)
				}
			}
		}
	})
}

// P1.2: of a < b, a = b, b < a just one holds, with and without a sign.
func TestJustOne(t *testing.T) {
	each(func(w int, a, b uint64) {
		for _, less := range []int{api.Ult, api.Slt} {
			below, above := number(t, less, w, a, b), number(t, less, w, b, a)
			same := number(t, api.Eq, w, a, b)
			if below+same+above != 1 {
				t.Error(less, w, a, b, below, same, above)
			}
			if number(t, api.Ne, w, a, b) != 1-same {
				t.Error("Ne", w, a, b)
			}
			if number(t, less+1, w, a, b) != below+same {
				t.Error("or alike", less, w, a, b)
			}
		}
	})
}

// P1: every call ends, none panics, and each answers the same when it is asked again; beside an end that isn't 0, or false, stands 0.
func TestWildArguments(t *testing.T) {
	numbers := []int{math.MinInt, math.MinInt32, -65, -64, -1, 0, 1, 2, 8, 12, 13, 19, 20, 22, 63, 64, 65, 128, 1 << 32, math.MaxInt}
	values := []uint64{0, 1, 63, 64, 65, 1 << 63, math.MaxUint64}
	for _, x := range numbers {
		for _, y := range numbers {
			for _, z := range numbers {
				for _, a := range values {
					checkTwice(t, x, y, z, a)
					for _, b := range values {
						checkApplyTwice(t, x, y, z, a, b)
					}
				}
			}
		}
	}
}

func checkApplyTwice(t *testing.T, op, w, flags int, a, b uint64) {
	t.Helper()
	v, end := bits.Apply(op, w, flags, a, b)
	again, endAgain := bits.Apply(op, w, flags, a, b)
	if v != again || end != endAgain {
		t.Error("Apply, asked again", op, w, flags, a, b)
	}
	if end < ends || end > noSuch || end != ends && v != 0 || v&^bits.Mask(w) != 0 {
		t.Error("Apply", op, w, flags, a, b, v, end)
	}
}

func checkTwice(t *testing.T, x, y, z int, a uint64) {
	t.Helper()
	v, ok := bits.Convert(x, y, z, a)
	again, okAgain := bits.Convert(x, y, z, a)
	if v != again || ok != okAgain || !ok && v != 0 || v&^bits.Mask(z) != 0 {
		t.Error("Convert", x, y, z, a, v, ok)
	}
	if bits.Mask(x) != bits.Mask(x) || bits.Signed(x, a) != bits.Signed(x, a) || bits.Flags(x) != bits.Flags(x) {
		t.Error("asked again", x, a)
	}
}
