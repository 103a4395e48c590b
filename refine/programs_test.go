package refine_test

import (
	"fmt"
	"slices"
	"strings"
)

// scope holds the operands that may be named: numbers of 2 bits, of one bit, and addresses.
type scope struct {
	numbers, bits, addresses []string
}

// inner is a scope of its own, of the same operands.
func (s scope) inner() *scope {
	return &scope{slices.Clone(s.numbers), slices.Clone(s.bits), slices.Clone(s.addresses)}
}

// writer writes the lines of a function.
type writer struct {
	maker
	lines []string
	next  int // the register that is made next
}

func (w *writer) line(form string, parts ...any) {
	w.lines = append(w.lines, fmt.Sprintf(form, parts...))
}

// makes writes a line that makes a register, and tells its name.
func (w *writer) makes(form string, parts ...any) string {
	name := fmt.Sprint("%", w.next)
	w.next++
	w.line("%s = "+form, append([]any{name}, parts...)...)
	return name
}

// pick is mostly the operand that was made last, so that values are handed on.
func (w *writer) pick(all []string) string {
	return oneOf(w.maker, all[len(all)-1], oneOf(w.maker, all...))
}

func (w *writer) flags(op string) string {
	switch op {
	case "add", "sub", "mul", "shl":
		return oneOf(w.maker, "", "", "nsw ", "nuw ", "nsw nuw ")
	case "udiv", "sdiv", "lshr", "ashr":
		return oneOf(w.maker, "", "", "exact ")
	}
	return ""
}

// step writes one instruction.
func (w *writer) step(s *scope) {
	n, m, b := w.pick(s.numbers), w.pick(s.numbers), w.pick(s.bits)
	p, q := w.pick(s.addresses), w.pick(s.addresses)
	number := func(form string, parts ...any) { s.numbers = append(s.numbers, w.makes(form, parts...)) }
	bit := func(form string, parts ...any) { s.bits = append(s.bits, w.makes(form, parts...)) }
	address := func(form string, parts ...any) { s.addresses = append(s.addresses, w.makes(form, parts...)) }
	switch w.Intn(16) {
	case 0, 1:
		op := oneOf(w.maker, "add", "sub", "mul", "udiv", "sdiv", "urem", "srem", "and", "or", "xor", "shl", "lshr", "ashr")
		number("%s %si2 %s, %s", op, w.flags(op), n, m)
	case 2:
		bit("%s i2 %s, %s", oneOf(w.maker, "eq", "ne", "ult", "ule", "slt", "sle"), n, m)
	case 3:
		bit("%s ptr %s, %s", oneOf(w.maker, "eq", "ne"), p, q)
	case 4:
		number("select i2 %s, %s, %s", b, n, m)
	case 5:
		address("select ptr %s, %s, %s", b, p, q)
	case 6:
		number("freeze i2 %s", n)
	case 7:
		bit("freeze i1 %s", b)
	case 8:
		number("%s i1 %s to i2", oneOf(w.maker, "zext", "sext"), b)
		bit("trunc i2 %s to i1", n)
	case 9:
		number("load i2 %s", oneOf(w.maker, p, "@g"))
	case 10:
		w.line("store i2 %s, %s", n, oneOf(w.maker, p, "@g"))
	case 11:
		w.line("store ptr %s, @h", p)
	case 12:
		address("load ptr @h")
	case 13:
		address("gep %s, %d", p, w.Intn(2))
	case 14:
		number("call x(%s)", n)
	case 15:
		number("call k(%s, %s)", b, n)
	}
}

func (w *writer) steps(s *scope, most int) {
	for range w.Intn(most + 1) {
		w.step(s)
	}
}

// program is a text whose function f has a number, a bit and an address to begin with, goes one of two ways, and may go round in the second one.
func (r maker) program() string {
	w := &writer{maker: r, next: 3}
	outer := &scope{[]string{"1", "2", "%0"}, []string{"%1"}, []string{"null", "@g", "%2"}}
	outer.addresses = append(outer.addresses, w.makes("alloca %d", 1+r.Intn(2)))
	if r.Intn(2) == 0 {
		w.line("store i2 1, %s", outer.addresses[3])
	}
	w.steps(outer, 5)
	w.line("brif %s, b1, b2", w.pick(outer.bits))
	w.line("b1:")
	left, right := outer.inner(), outer.inner()
	w.steps(left, 3)
	w.line("br b3")
	w.line("b2:")
	w.steps(right, 3)
	w.line("brif %s, b2, b3", oneOf(r, "0", w.pick(right.bits)))
	w.line("b3:")
	outer.numbers = append(outer.numbers, w.makes("phi i2 b1 %s, b2 %s", w.pick(left.numbers), w.pick(right.numbers)))
	w.steps(outer, 2)
	w.line("ret i2 %s", w.pick(outer.numbers))
	return "global g 1;global h 8;extern x(i2) i2;func f(i2, i1, ptr) i2;b0:;" + strings.Join(w.lines, ";") + ";end;" + deepOrNot
}

// deepOrNot is a function that never ends well, if its bit is 1.
const deepOrNot = "func k(i1, i2) i2;b0:;store i2 %1, @g;brif %0, b1, b2;b1:;%2 = call k(%0, %1);ret i2 %2;b2:;%3 = mul i2 %1, 3;ret i2 %3;end"
