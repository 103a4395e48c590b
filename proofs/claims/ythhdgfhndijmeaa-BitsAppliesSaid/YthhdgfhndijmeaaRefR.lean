/- The document's bit by bit operations are those of the machine's words. -/
import Derived.Test.YthhdgfhndijmeaaRefQ
import Derived.Laws.Bits64
import Derived.Laws.Bits64b
namespace Go.Proofs.Ythhdgfhndijmeaa
open Go.RowKit
set_option linter.unusedVariables false
set_option linter.unusedSimpArgs false

def natOp (op : Int) (a b : Nat) : Nat := if op = 8 then a &&& b else if op = 9 then a ||| b else a ^^^ b
theorem bit_of (a k : Nat) : a / 2 ^ k % 2 = if a.testBit k then 1 else 0 := by
  rw [Nat.testBit_eq_decide_div_mod_eq]
  have : a / 2 ^ k % 2 = 0 ∨ a / 2 ^ k % 2 = 1 := by omega
  rcases this with h | h <;> rw [h] <;> rfl
theorem natOp_bit (op : Int) (ho : op = 8 ∨ op = 9 ∨ op = 10) (a b k : Nat) : ((natOp op a b / 2 ^ k % 2 : Nat) : Int) = bitv op ((a / 2 ^ k % 2 : Nat) : Int) ((b / 2 ^ k % 2 : Nat) : Int) := by
  rw [bit_of, bit_of, bit_of]
  rcases ho with rfl | rfl | rfl
  · show ((if (a &&& b).testBit k then 1 else 0 : Nat) : Int) = _
    rw [Nat.testBit_and]
    cases a.testBit k <;> cases b.testBit k <;> rfl
  · show ((if (a ||| b).testBit k then 1 else 0 : Nat) : Int) = _
    rw [Nat.testBit_or]
    cases a.testBit k <;> cases b.testBit k <;> rfl
  · show ((if (a ^^^ b).testBit k then 1 else 0 : Nat) : Int) = _
    rw [Nat.testBit_xor]
    cases a.testBit k <;> cases b.testBit k <;> rfl
theorem pw_cast (k : Nat) : pw k = ((2 ^ k : Nat) : Int) := by unfold pw; simp
theorem firstBits_nat (op : Int) (ho : op = 8 ∨ op = 9 ∨ op = 10) (a b k : Nat) : firstBits op (a : Int) (b : Int) k = ((natOp op a b % 2 ^ k : Nat) : Int) := by
  induction k with
  | zero => show (0 : Int) = _; rw [Nat.pow_zero, Nat.mod_one]; rfl
  | succ k ih =>
    have hb := natOp_bit op ho a b k
    show firstBits op a b k + pw k * bitv op ((a : Int) / pw k % 2) ((b : Int) / pw k % 2) = _
    have e1 : (a : Int) / pw k % 2 = ((a / 2 ^ k % 2 : Nat) : Int) := by rw [pw_cast]; simp
    have e2 : (b : Int) / pw k % 2 = ((b / 2 ^ k % 2 : Nat) : Int) := by rw [pw_cast]; simp
    rw [ih, e1, e2, ← hb, pw_cast, Nat.mod_pow_succ, Int.natCast_add, Int.natCast_mul]
theorem firstBits_of (op a b : Int) (n : Nat) (ho : op = 8 ∨ op = 9 ∨ op = 10) (hn : n ≤ 64) (ha : 0 ≤ a) (hb : 0 ≤ b) :
    firstBits op a b n = if op = 8 then bits .and .u64 (a % pw n) (b % pw n) else if op = 9 then bits .or .u64 (a % pw n) (b % pw n) else bits .xor .u64 (a % pw n) (b % pw n) := by
  obtain ⟨x, rfl⟩ := Int.eq_ofNat_of_zero_le ha
  obtain ⟨y, rfl⟩ := Int.eq_ofNat_of_zero_le hb
  have hl : 2 ^ n ≤ 2 ^ 64 := Nat.pow_le_pow_right (by decide) hn
  have hp : 0 < 2 ^ n := Nat.two_pow_pos n
  have hx : x % 2 ^ n < 18446744073709551616 := Nat.lt_of_lt_of_le (Nat.mod_lt _ hp) hl
  have hy : y % 2 ^ n < 18446744073709551616 := Nat.lt_of_lt_of_le (Nat.mod_lt _ hp) hl
  have e1 : (x : Int) % pw n = ((x % 2 ^ n : Nat) : Int) := by rw [pw_cast]; simp
  have e2 : (y : Int) % pw n = ((y % 2 ^ n : Nat) : Int) := by rw [pw_cast]; simp
  rw [firstBits_nat op ho, e1, e2]
  rcases ho with rfl | rfl | rfl
  · rw [if_pos rfl, bits_and_u64_nat _ _ hx hy]
    show (((x &&& y) % 2 ^ n : Nat) : Int) = _
    rw [Nat.and_mod_two_pow]
  · rw [if_neg (by decide), if_pos rfl, bits_or_u64_nat _ _ hx hy]
    show (((x ||| y) % 2 ^ n : Nat) : Int) = _
    rw [Nat.or_mod_two_pow]
  · rw [if_neg (by decide), if_neg (by decide), bits_xor_u64_nat _ _ hx hy]
    show (((x ^^^ y) % 2 ^ n : Nat) : Int) = _
    rw [Nat.xor_mod_two_pow]
theorem bitwise_of (op w a b : Int) (ho : op = 8 ∨ op = 9 ∨ op = 10) (h1 : 1 ≤ w) (h2 : w ≤ 64) (ha : 0 ≤ a) (ha' : a ≤ 18446744073709551615) (hb : 0 ≤ b) (hb' : b ≤ 18446744073709551615) (W : World) :
    Calls Try.prog 32 #[.int .i64 op, .int .i64 w, .int .u64 a, .int .u64 b] W fun e w' => e = .returned (.int .u64 (plV w.toNat op (a % pw w.toNat) (b % pw w.toNat))) ∧ W = w' := by
  refine (bitwise_any op w a b W h1 h2 ha ha' hb hb' ho).mono fun e w' ⟨he, hw⟩ => ⟨?_, hw⟩
  rw [he, firstBits_of op a b w.toNat ho (by omega) ha hb]
  rcases ho with rfl | rfl | rfl <;> rfl
end Go.Proofs.Ythhdgfhndijmeaa
