/- What the law's function of answers, in closed forms; ranges out of a literal's well-formedness. -/
import Derived.Test.YthhdgfhndijmeaaBitsF
namespace Go.Proofs.Ythhdgfhndijmeaa
open Go.RowKit
set_option linter.unusedVariables false

theorem i64_wf {a : Int} (h : (Lit.int .i64 a).wf = true) : -9223372036854775808 ≤ a ∧ a ≤ 9223372036854775807 := by
  simp only [Lit.wf, Bool.and_eq_true, decide_eq_true_eq] at h
  exact h
theorem u64_wf {a : Int} (h : (Lit.int .u64 a).wf = true) : 0 ≤ a ∧ a ≤ 18446744073709551615 := by
  simp only [Lit.wf, Bool.and_eq_true, decide_eq_true_eq] at h
  exact h
theorem grown_drewN (w : World) (n : Nat) : Grown w (w.drewN n) := Grown.refl w
theorem grown_drawn {a b : World} (h : Grown a b) (n : Nat) : Grown a (b.drewN n) := h
theorem mod_u64 (z : Int) {w : Int} (h1 : 1 ≤ w) (h2 : w ≤ 64) : 0 ≤ z % pw w.toNat ∧ z % pw w.toNat ≤ 18446744073709551615 := by
  have := pw_pos w.toNat
  have := pw_le64 (n := w.toNat) (by omega)
  have := Int.emod_nonneg z (show pw w.toNat ≠ 0 by omega)
  have := Int.emod_lt_of_pos z (show 0 < pw w.toNat by omega)
  omega
theorem Int.mul_emod_emod' (a b n : Int) : a * (b % n) % n = a * b % n := by
  rw [Int.mul_emod, Int.emod_emod, ← Int.mul_emod]

theorem of_1 (w a b : Int) (h1 : 1 ≤ w) (h2 : w ≤ 64) (ha : 0 ≤ a) (ha' : a ≤ 18446744073709551615) (hb : 0 ≤ b) (hb' : b ≤ 18446744073709551615) :
    Gives 24 #[.int .i64 1, .int .i64 w, .int .u64 a, .int .u64 b] (.int .u64 ((a + b) % pw w.toNat)) :=
  (of_gen (Apply_1 w 0 a b h1 h2 ha ha' hb hb' (by decide))).as (one_eq (by simp [aplR, aplE, plE, plV, brB]))
theorem of_2 (w a b : Int) (h1 : 1 ≤ w) (h2 : w ≤ 64) (ha : 0 ≤ a) (ha' : a ≤ 18446744073709551615) (hb : 0 ≤ b) (hb' : b ≤ 18446744073709551615) :
    Gives 24 #[.int .i64 2, .int .i64 w, .int .u64 a, .int .u64 b] (.int .u64 ((a - b) % pw w.toNat)) :=
  (of_gen (Apply_2 w 0 a b h1 h2 ha ha' hb hb' (by decide))).as (one_eq (by simp [aplR, aplE, plE, plV, brB]))
theorem of_3 (w a b : Int) (h1 : 1 ≤ w) (h2 : w ≤ 64) (ha : 0 ≤ a) (ha' : a ≤ 18446744073709551615) (hb : 0 ≤ b) (hb' : b ≤ 18446744073709551615) :
    Gives 24 #[.int .i64 3, .int .i64 w, .int .u64 a, .int .u64 b] (.int .u64 (a * b % pw w.toNat)) :=
  (of_gen (Apply_3 w 0 a b h1 h2 ha ha' hb hb' (by decide))).as (one_eq (by simp [aplR, aplE, plE, plV, brB, ← Int.mul_emod]))
end Go.Proofs.Ythhdgfhndijmeaa
