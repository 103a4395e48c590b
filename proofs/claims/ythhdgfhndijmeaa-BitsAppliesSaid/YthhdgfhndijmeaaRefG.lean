/- Contracts of the document's answers (package latheref01): Times and quotient in terms of the whole numbers that they hold. -/
import Derived.Test.YthhdgfhndijmeaaRefF
namespace Go.Proofs.Ythhdgfhndijmeaa
open Go.RowKit
set_option linter.unusedVariables false
set_option linter.unusedSimpArgs false

theorem halves (x y p q r s : Int) (hx : x = 4294967296 * p + q) (hy : y = 4294967296 * r + s) :
    q * s + (p * s + q * r) * 4294967296 + p * r * 18446744073709551616 = x * y := by
  subst hx; subst hy
  have e0 : (4294967296 * p + q) * (4294967296 * r + s) = 4294967296 * p * (4294967296 * r) + 4294967296 * p * s + (q * (4294967296 * r) + q * s) := by
    rw [Int.add_mul, Int.mul_add, Int.mul_add]
  have e1 : 4294967296 * p * (4294967296 * r) = 4294967296 * (4294967296 * (p * r)) := by rw [Int.mul_assoc, Int.mul_left_comm p]
  have e2 : 4294967296 * p * s = 4294967296 * (p * s) := Int.mul_assoc _ _ _
  have e3 : q * (4294967296 * r) = 4294967296 * (q * r) := Int.mul_left_comm _ _ _
  rw [e0, e1, e2, e3]
  omega

theorem Times_of (x y : Int) (hx : -18446744073709551616 < x ∧ x < 18446744073709551616) (hy : -18446744073709551616 < y ∧ y < 18446744073709551616) :
    Makes 58 #[bigOf x, bigOf y] (bigOf (x * y)) := by
  intro W
  have X0 : 0 ≤ mag x := by unfold mag; split <;> omega
  have Y0 : 0 ≤ mag y := by unfold mag; split <;> omega
  have X1 : mag x ≤ 18446744073709551615 := by unfold mag; split <;> omega
  have Y1 : mag y ≤ 18446744073709551615 := by unfold mag; split <;> omega
  have hm : mag (x * y) = mag x * mag y := by
    unfold mag
    by_cases h1 : x < 0 <;> by_cases h2 : y < 0 <;> simp only [h1, h2, if_true, if_false]
    · have := Int.mul_pos_of_neg_of_neg h1 h2
      rw [if_neg (by omega), Int.neg_mul_neg]
    · have := Int.mul_nonneg (show 0 ≤ -x by omega) (show 0 ≤ y by omega)
      rw [Int.neg_mul] at *
      split <;> omega
    · have := Int.mul_nonneg (show 0 ≤ x by omega) (show 0 ≤ -y by omega)
      rw [Int.mul_neg] at *
      split <;> omega
    · have := Int.mul_nonneg (show 0 ≤ x by omega) (show 0 ≤ y by omega)
      rw [if_neg (by omega)]
  have hz : ((decide (x < 0) != decide (y < 0)) && !(mag x * mag y / 18446744073709551616 == 0 && mag x * mag y % 18446744073709551616 == 0)) = decide (x * y < 0) := by
    have hM : 0 ≤ mag x * mag y := Int.mul_nonneg X0 Y0
    have hn : (!(mag x * mag y / 18446744073709551616 == 0 && mag x * mag y % 18446744073709551616 == 0)) = decide (x * y ≠ 0) := by
      rw [Bool.eq_iff_iff]
      simp only [Bool.not_eq_true', Bool.and_eq_false_iff, beq_eq_false_iff_ne, decide_eq_true_eq, ne_eq]
      have : x * y = 0 ↔ mag x * mag y = 0 := by rw [← hm]; unfold mag; split <;> omega
      omega
    rw [hn]
    clear hn hm hM
    by_cases h1 : x < 0 <;> by_cases h2 : y < 0
    · have := Int.mul_pos_of_neg_of_neg h1 h2
      generalize x * y = t at *
      have h3 : ¬ t < 0 := by omega
      simp [h1, h2, h3]
    · have := Int.mul_nonneg (show 0 ≤ -x by omega) (show 0 ≤ y by omega)
      rw [Int.neg_mul] at this
      generalize x * y = t at *
      rw [Bool.eq_iff_iff]; simp only [h1, h2, decide_true, decide_false, Bool.and_eq_true, decide_eq_true_eq]
      simp; omega
    · have := Int.mul_nonneg (show 0 ≤ x by omega) (show 0 ≤ -y by omega)
      rw [Int.mul_neg] at this
      generalize x * y = t at *
      rw [Bool.eq_iff_iff]; simp only [h1, h2, decide_true, decide_false, Bool.and_eq_true, decide_eq_true_eq]
      simp; omega
    · have := Int.mul_nonneg (show 0 ≤ x by omega) (show 0 ≤ y by omega)
      generalize x * y = t at *
      have h3 : ¬ t < 0 := by omega
      simp [h1, h2, h3]
  have ex : mag x % 18446744073709551616 = mag x := Int.emod_eq_of_lt X0 (by omega)
  have ey : mag y % 18446744073709551616 = mag y := Int.emod_eq_of_lt Y0 (by omega)
  unfold bigOf
  rw [hm, ex, ey]
  generalize decide (x < 0) = b1 at *
  generalize decide (y < 0) = b2 at *
  generalize decide (x * y < 0) = z at *
  generalize mag x = X at *
  generalize mag y = Y at *
  have p1 : 0 ≤ X / 4294967296 := by omega
  have p2 : X / 4294967296 ≤ 4294967295 := by omega
  have q1 : 0 ≤ X % 4294967296 := by omega
  have q2 : X % 4294967296 ≤ 4294967295 := by omega
  have r1 : 0 ≤ Y / 4294967296 := by omega
  have r2 : Y / 4294967296 ≤ 4294967295 := by omega
  have s1 : 0 ≤ Y % 4294967296 := by omega
  have s2 : Y % 4294967296 ≤ 4294967295 := by omega
  have hh := halves X Y (X / 4294967296) (X % 4294967296) (Y / 4294967296) (Y % 4294967296) (by omega) (by omega)
  have b1' := prod_bd q1 q2 s1 s2
  have b2' := prod_bd p1 p2 s1 s2
  have b3' := prod_bd q1 q2 r1 r2
  have b4' := prod_bd p1 p2 r1 r2
  have c4 := fun W => fixed_any (X * Y / 18446744073709551616) (X * Y % 18446744073709551616) (b1 != b2) W
  rw [hz] at c4
  have key := fun (p q r s : Int) (hp : X / 4294967296 = p) (hq : X % 4294967296 = q) (hr : Y / 4294967296 = r) (hs : Y % 4294967296 = s)
      (hh : q * s + (p * s + q * r) * 4294967296 + p * r * 18446744073709551616 = X * Y) (b1' : 0 ≤ q * s ∧ q * s ≤ 18446744065119617025) (b2' : 0 ≤ p * s ∧ p * s ≤ 18446744065119617025)
      (b3' : 0 ≤ q * r ∧ q * r ≤ 18446744065119617025) (b4' : 0 ≤ p * r ∧ p * r ≤ 18446744065119617025) =>
    Times_raw (X / 18446744073709551616) X (Y / 18446744073709551616) Y p q r s ((p * s + q * r) / 18446744073709551616 * 4294967296 + (p * s + q * r) % 18446744073709551616 / 4294967296) ((p * s + q * r) % 18446744073709551616 % 4294967296 * 4294967296)
      ((p * s + q * r) / 18446744073709551616) ((p * s + q * r) % 18446744073709551616) ((q * s + (p * s + q * r) * 4294967296) / 18446744073709551616) ((q * s + (p * s + q * r) * 4294967296) % 18446744073709551616) 0 b1 b2 z W X0 X1 Y0 Y1 hp hq hr hs
      b1'.1 (by omega) b2'.1 (by omega) b3'.1 (by omega) b4'.1 (by omega) (by omega) (by omega) (by omega) (by omega) rfl rfl
      (fun W => Plus_pos 0 (p * s) 0 (q * r) W (by omega) (by omega) (by omega) (by omega) (by omega) (by omega) (p * s + q * r) _ _ (by omega) (by omega) rfl rfl)
      (fun W => Plus_pos 0 (q * s) _ _ W (by omega) (by omega) (by omega) (by omega) (by omega) (by omega) (q * s + (p * s + q * r) * 4294967296) _ _ (by omega) (by omega) rfl rfl)
      (fun W => Plus_pos _ _ (p * r) 0 W (by omega) (by omega) (by omega) (by omega) (by omega) (by omega) (X * Y) _ _ (by omega) (by omega) rfl rfl)
      c4
  have X2 : X / 18446744073709551616 = 0 := by omega
  have Y2 : Y / 18446744073709551616 = 0 := by omega
  rw [X2, Y2] at key
  rw [X2, Y2]
  exact key _ _ _ _ rfl rfl rfl rfl hh b1' b2' b3' b4'

theorem big_pm (k : Int) (b : Bool) (h : 0 ≤ k ∧ k ≤ 18446744073709551615) : Value.agg #[.int .u64 0, .int .u64 k, .bool (b && !((0 : Int) == 0 && k == 0))] = bigOf (if b then -k else k) := by
  unfold bigOf
  cases b
  · simp only [Bool.false_eq_true, if_false, Bool.false_and]
    rw [mag_pos (by omega)]
    exact agg3 (by omega) (by omega) (by simp; omega)
  · simp only [if_true, Bool.true_and]
    by_cases h0 : k = 0
    · subst h0; exact agg3 rfl rfl rfl
    · rw [mag_neg (by omega)]
      exact agg3 (by omega) (by omega) (by rw [Bool.eq_iff_iff]; simp; omega)
theorem quotient_of (x y : Int) (hx : -18446744073709551616 < x ∧ x < 18446744073709551616) (hy : -18446744073709551616 < y ∧ y < 18446744073709551616) (h0 : y ≠ 0) :
    Makes 48 #[bigOf x, bigOf y] (.tuple #[bigOf (x.tdiv y), bigOf (x.tmod y)]) := by
  intro W
  have X0 : 0 ≤ mag x := by unfold mag; split <;> omega
  have Y0 : 1 ≤ mag y := by unfold mag; split <;> omega
  have X1 : mag x ≤ 18446744073709551615 := by unfold mag; split <;> omega
  have Y1 : mag y ≤ 18446744073709551615 := by unfold mag; split <;> omega
  have ex : mag x % 18446744073709551616 = mag x := Int.emod_eq_of_lt X0 (by omega)
  have ey : mag y % 18446744073709551616 = mag y := Int.emod_eq_of_lt (by omega) (by omega)
  have hq : x.tdiv y = if (decide (x < 0) != decide (y < 0)) then -(mag x / mag y) else mag x / mag y := by
    by_cases h1 : x < 0 <;> by_cases h2 : y < 0
    · rw [mag_neg h1, mag_neg h2]; simp only [h1, h2, decide_true, bne_self_eq_false, Bool.false_eq_true, if_false]
      rw [← Int.tdiv_eq_ediv_of_nonneg (by omega), Int.neg_tdiv_neg]
    · rw [mag_neg h1, mag_pos h2]; simp only [h1, h2, decide_true, decide_false, Bool.bne_false, if_true]
      rw [← Int.tdiv_eq_ediv_of_nonneg (by omega), Int.neg_tdiv, Int.neg_neg]
    · rw [mag_pos h1, mag_neg h2]; simp only [h1, h2, decide_true, decide_false, Bool.bne_true, Bool.not_false, if_true]
      rw [← Int.tdiv_eq_ediv_of_nonneg (by omega), Int.tdiv_neg, Int.neg_neg]
    · rw [mag_pos h1, mag_pos h2]; simp only [h1, h2, decide_false, bne_self_eq_false, Bool.false_eq_true, if_false]
      rw [← Int.tdiv_eq_ediv_of_nonneg (by omega)]
  have hr : x.tmod y = if decide (x < 0) then -(mag x % mag y) else mag x % mag y := by
    by_cases h1 : x < 0 <;> by_cases h2 : y < 0
    · rw [mag_neg h1, mag_neg h2]; simp only [h1, decide_true, if_true]
      rw [← Int.tmod_eq_emod_of_nonneg (by omega), Int.tmod_neg, Int.neg_tmod, Int.neg_neg]
    · rw [mag_neg h1, mag_pos h2]; simp only [h1, decide_true, if_true]
      rw [← Int.tmod_eq_emod_of_nonneg (by omega), Int.neg_tmod, Int.neg_neg]
    · rw [mag_pos h1, mag_neg h2]; simp only [h1, decide_false, Bool.false_eq_true, if_false]
      rw [← Int.tmod_eq_emod_of_nonneg (by omega), Int.tmod_neg]
    · rw [mag_pos h1, mag_pos h2]; simp only [h1, decide_false, Bool.false_eq_true, if_false]
      rw [← Int.tmod_eq_emod_of_nonneg (by omega)]
  have hq0 : 0 ≤ mag x / mag y := Int.ediv_nonneg X0 (by omega)
  have hq1 := Int.ediv_le_self (mag y) X0
  have hr0 := Int.emod_nonneg (mag x) (show mag y ≠ 0 by omega)
  have hr1 := Int.emod_lt_of_pos (mag x) (show 0 < mag y by omega)
  rw [hq, hr, ← big_pm _ _ ⟨hq0, by omega⟩, ← big_pm _ _ ⟨hr0, by omega⟩]
  have hc := quotient_any (mag x / 18446744073709551616) (mag x) (mag y / 18446744073709551616) (mag y) (decide (x < 0)) (decide (y < 0)) W X0 X1 Y0 Y1
  unfold bigOf
  rw [ex, ey]
  exact hc
end Go.Proofs.Ythhdgfhndijmeaa
