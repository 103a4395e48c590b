/- Contracts of the document's answers (package latheref01): exact in whole numbers; flagged. -/
import Derived.Test.YthhdgfhndijmeaaRefI
namespace Go.Proofs.Ythhdgfhndijmeaa
open Go.RowKit
set_option linter.unusedVariables false
set_option linter.unusedSimpArgs false

theorem mul_bd {x y A B : Int} (hA : 0 ≤ A) (hB : 0 ≤ B) (x1 : -A ≤ x) (x2 : x ≤ A) (y1 : -B ≤ y) (y2 : y ≤ B) : -(A * B) ≤ x * y ∧ x * y ≤ A * B := by
  have hm : (x.natAbs : Int) * (y.natAbs : Int) ≤ A * B := Int.mul_le_mul (by omega) (by omega) (by omega) hA
  have he : ((x * y).natAbs : Int) = (x.natAbs : Int) * (y.natAbs : Int) := by rw [Int.natAbs_mul]; rfl
  generalize x * y = z at *
  omega

/-- The number that exact takes for its first, and its second argument. -/
def xOf (w a : Int) (sign : Bool) : Int := if sign then sgn w a else a % pw w.toNat
theorem xOf_bd (w a : Int) (h1 : 1 ≤ w) (h2 : w ≤ 64) (sign : Bool) : -9223372036854775808 ≤ xOf w a sign ∧ xOf w a sign ≤ 18446744073709551615 := by
  have := sgn_bd w a
  have := mod_u64 a h1 h2
  unfold xOf
  split <;> omega
theorem exact_of (op w a b : Int) (sign : Bool) (ho : op = 1 ∨ op = 2 ∨ op = 3) (h1 : 1 ≤ w) (h2 : w ≤ 64) (ha : 0 ≤ a) (ha' : a ≤ 18446744073709551615) (hb : 0 ≤ b) (hb' : b ≤ 18446744073709551615) :
    Makes 45 #[.int .i64 op, .int .i64 w, .int .u64 a, .int .u64 b, .bool sign] (bigOf (ex op (xOf w a sign) (xOf w b sign))) := by
  intro W
  have pa := Plain_of w a h1 h2 ha ha'
  have pb := Plain_of w b h1 h2 hb hb'
  have sa := With_of w a h1 h2 ha ha'
  have sb := With_of w b h1 h2 hb hb'
  have xb := xOf_bd w a h1 h2 sign
  have yb := xOf_bd w b h1 h2 sign
  have hm := mul_bd (A := 18446744073709551615) (B := 18446744073709551615) (by omega) (by omega) (show _ ≤ xOf w a sign by omega) (by omega) (show _ ≤ xOf w b sign by omega) (by omega)
  rcases ho with rfl | rfl | rfl <;> cases sign <;> simp only [xOf, ex, if_true, if_false, Bool.false_eq_true, show ¬ (2 : Int) = 1 by decide, show ¬ (3 : Int) = 1 by decide, show ¬ (3 : Int) = 2 by decide] at *
  · exact exact_1f _ _ _ _ _ _ _ _ _ _ _ _ W pa pb (Plus_of _ _ ⟨by omega, by omega⟩ ⟨by omega, by omega⟩ ⟨by omega, by omega⟩)
  · exact exact_1t _ _ _ _ _ _ _ _ _ _ _ _ _ _ _ _ _ _ W pa pb sa sb (Plus_of _ _ ⟨by omega, by omega⟩ ⟨by omega, by omega⟩ ⟨by omega, by omega⟩)
  · rw [Int.sub_eq_add_neg]
    exact exact_2f _ _ _ _ _ _ _ _ _ _ _ _ _ _ _ W pa pb (Minus_of _) (Plus_of _ _ ⟨by omega, by omega⟩ ⟨by omega, by omega⟩ ⟨by omega, by omega⟩)
  · rw [Int.sub_eq_add_neg]
    exact exact_2t _ _ _ _ _ _ _ _ _ _ _ _ _ _ _ _ _ _ _ _ _ W pa pb sa sb (Minus_of _) (Plus_of _ _ ⟨by omega, by omega⟩ ⟨by omega, by omega⟩ ⟨by omega, by omega⟩)
  · exact exact_3f _ _ _ _ _ _ _ _ _ _ _ _ W pa pb (Times_of _ _ ⟨by omega, by omega⟩ ⟨by omega, by omega⟩)
  · exact exact_3t _ _ _ _ _ _ _ _ _ _ _ _ _ _ _ _ _ _ W pa pb sa sb (Times_of _ _ ⟨by omega, by omega⟩ ⟨by omega, by omega⟩)
theorem exact_of11 (w a b : Int) (sign : Bool) (h1 : 1 ≤ w) (h2 : w ≤ 64) (ha : 0 ≤ a) (ha' : a ≤ 18446744073709551615) (hb : 0 ≤ b) (hb' : b ≤ 18446744073709551615) (hy : b % pw w.toNat < w) :
    Makes 45 #[.int .i64 11, .int .i64 w, .int .u64 a, .int .u64 b, .bool sign] (bigOf (ex 11 (xOf w a sign) (b % pw w.toNat))) := by
  intro W
  have pa := Plain_of w a h1 h2 ha ha'
  have pb := Plain_of w b h1 h2 hb hb'
  have sa := With_of w a h1 h2 ha ha'
  have xb := xOf_bd w a h1 h2 sign
  have yb := mod_u64 b h1 h2
  have hp := pw_pos (b % pw w.toNat).toNat
  have hp' := pw_le63 (n := (b % pw w.toNat).toNat) (by omega)
  have ht := Times_of (xOf w a sign) (pw (b % pw w.toNat).toNat) ⟨by omega, by omega⟩ ⟨by omega, by omega⟩
  have hw : mag (b % pw w.toNat) % 18446744073709551616 = b % pw w.toNat := by rw [mag_pos (by omega)]; omega
  have hpw : Makes 50 #[.int .u64 (mag (b % pw w.toNat) % 18446744073709551616)] (bigOf (pw (b % pw w.toNat).toNat)) := by
    rw [hw]; intro W; exact power_any _ W (by omega) (by omega)
  cases sign <;> simp only [xOf, ex, if_true, if_false, Bool.false_eq_true, show ¬ (11 : Int) = 1 by decide, show ¬ (11 : Int) = 2 by decide, show ¬ (11 : Int) = 3 by decide] at *
  · exact exact_11f _ _ _ _ _ _ _ _ _ _ _ _ _ _ _ W pa pb hpw ht
  · exact exact_11t _ _ _ _ _ _ _ _ _ _ _ _ _ _ _ _ _ _ W pa pb sa hpw ht
end Go.Proofs.Ythhdgfhndijmeaa
