package bits_test

import (
	"math/big"

	"lathe/api"
)

// The chapter's table once more, by whole numbers without a bound; the tests hold the package against it.

const (
	ends      = 0
	poison    = 1
	undefined = 2
	noSuch    = 3
)

func power(n int) *big.Int {
	return new(big.Int).Lsh(big.NewInt(1), uint(n))
}

func whole(v uint64) *big.Int {
	return new(big.Int).SetUint64(v)
}

func lowest(w int, v uint64) *big.Int {
	return new(big.Int).Mod(whole(v), power(w))
}

func withSign(w int, v uint64) *big.Int {
	z := lowest(w, v)
	if z.Cmp(power(w-1)) < 0 {
		return z
	}
	return z.Sub(z, power(w))
}

func wrapped(w int, z *big.Int) uint64 {
	return new(big.Int).Mod(z, power(w)).Uint64()
}

func between(z, from, to *big.Int) bool {
	return z.Cmp(from) >= 0 && z.Cmp(to) <= 0
}

func fits(w int, z *big.Int) bool {
	return between(z, big.NewInt(0), new(big.Int).Sub(power(w), big.NewInt(1)))
}

func fitsSigned(w int, z *big.Int) bool {
	half := power(w - 1)
	return between(z, new(big.Int).Neg(half), new(big.Int).Sub(half, big.NewInt(1)))
}

func allowed(op int) int {
	switch op {
	case api.Add, api.Sub, api.Mul, api.Shl:
		return 3
	case api.Udiv, api.Sdiv, api.Lshr, api.Ashr:
		return 4
	}
	return 0
}

// byTable answers what the table says of Apply.
func byTable(op, w, flags int, a, b uint64) (uint64, int) {
	if op < 1 || op > 19 || w < 1 || w > 64 || flags&^allowed(op) != 0 {
		return 0, noSuch
	}
	x, y := lowest(w, a), lowest(w, b)
	s, t := withSign(w, a), withSign(w, b)
	switch op {
	case api.Add, api.Sub, api.Mul:
		return flagged(w, flags, arithmetic(op, x, y), arithmetic(op, s, t))
	case api.Udiv, api.Urem:
		return quotient(op, w, flags, x, y)
	case api.Sdiv, api.Srem:
		if t.Cmp(big.NewInt(-1)) == 0 && s.Cmp(new(big.Int).Neg(power(w-1))) == 0 {
			return 0, undefined
		}
		return quotient(op, w, flags, s, t)
	case api.And:
		return a & b & wrapped(w, big.NewInt(-1)), ends
	case api.Or:
		return (a | b) & wrapped(w, big.NewInt(-1)), ends
	case api.Xor:
		return (a ^ b) & wrapped(w, big.NewInt(-1)), ends
	case api.Shl, api.Lshr, api.Ashr:
		return shifted(op, w, flags, x, s, y)
	case api.Slt, api.Sle:
		return compared(op, s.Cmp(t)), ends
	}
	return compared(op, x.Cmp(y)), ends
}

func arithmetic(op int, x, y *big.Int) *big.Int {
	switch op {
	case api.Add:
		return new(big.Int).Add(x, y)
	case api.Sub:
		return new(big.Int).Sub(x, y)
	}
	return new(big.Int).Mul(x, y)
}

func flagged(w, flags int, z, signed *big.Int) (uint64, int) {
	if flags&api.Nuw != 0 && !fits(w, z) || flags&api.Nsw != 0 && !fitsSigned(w, signed) {
		return 0, poison
	}
	return wrapped(w, z), ends
}

func quotient(op, w, flags int, x, y *big.Int) (uint64, int) {
	if y.Sign() == 0 {
		return 0, undefined
	}
	q, r := new(big.Int).QuoRem(x, y, new(big.Int))
	if op == api.Urem || op == api.Srem {
		return wrapped(w, r), ends
	}
	if flags != 0 && r.Sign() != 0 {
		return 0, poison
	}
	return wrapped(w, q), ends
}

func shifted(op, w, flags int, x, s, y *big.Int) (uint64, int) {
	if y.Cmp(big.NewInt(int64(w))) >= 0 {
		return 0, poison
	}
	p := power(int(y.Int64()))
	if op == api.Shl {
		return flagged(w, flags, new(big.Int).Mul(x, p), new(big.Int).Mul(s, p))
	}
	z := x
	if op == api.Ashr {
		z = s
	}
	// DivMod by a divisor above 0 cuts towards what is below.
	q, r := new(big.Int).DivMod(z, p, new(big.Int))
	if flags != 0 && r.Sign() != 0 {
		return 0, poison
	}
	return wrapped(w, q), ends
}

func compared(op, c int) uint64 {
	var is bool
	switch op {
	case api.Eq:
		is = c == 0
	case api.Ne:
		is = c != 0
	case api.Ult, api.Slt:
		is = c < 0
	case api.Ule, api.Sle:
		is = c <= 0
	}
	if is {
		return 1
	}
	return 0
}

// edges are the numbers of width w at which something turns.
func edges(w int) []uint64 {
	top := wrapped(w, big.NewInt(-1))
	half := power(w - 1).Uint64()
	all := []uint64{
		0, 1, 2, 3, 5, 7, uint64(w) - 1, uint64(w), uint64(w) + 1,
		half - 2, half - 1, half, half + 1, top - 2, top - 1, top, top / 3, 1 << uint(w/2), 1<<uint(w/2) - 1,
	}
	met := map[uint64]bool{}
	var list []uint64
	for _, v := range all {
		if v &= top; !met[v] {
			met[v] = true
			list = append(list, v)
		}
	}
	return list
}
