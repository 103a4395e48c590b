/- Contracts of the document's answers (package latheref01): Plus, Minus, With, Plain, Wrapped in terms of the whole numbers that they hold. -/
import Derived.Test.YthhdgfhndijmeaaRefB
namespace Go.Proofs.Ythhdgfhndijmeaa
open Go.RowKit
set_option linter.unusedVariables false
set_option linter.unusedSimpArgs false

/-- A whole number of less than twice 64 bits as the document's answers hold it. -/
def bigOf (z : Int) : Value := .agg #[.int .u64 (mag z / 18446744073709551616), .int .u64 (mag z % 18446744073709551616), .bool (decide (z < 0))]
/-- Is its size one of twice 64 bits? -/
def fit128 (z : Int) : Prop := -340282366920938463463374607431768211456 < z ∧ z < 340282366920938463463374607431768211456
theorem agg3 {a b c d : Int} {p q : Bool} (h1 : a = c) (h2 : b = d) (h3 : p = q) : Value.agg #[.int .u64 a, .int .u64 b, .bool p] = .agg #[.int .u64 c, .int .u64 d, .bool q] := by rw [h1, h2, h3]
theorem big_of {z : Int} (h : -18446744073709551616 < z ∧ z < 18446744073709551616) : big 0 (mag z) (decide (z < 0)) = bigOf z := by
  unfold big bigOf mag
  split <;> exact agg3 (by omega) (by omega) rfl
theorem mag_neg {z : Int} (h : z < 0) : mag z = -z := by rw [mag, if_pos h]
theorem mag_pos {z : Int} (h : ¬ z < 0) : mag z = z := by rw [mag, if_neg h]

theorem Minus_of (z : Int) : Makes 52 #[bigOf z] (bigOf (-z)) := by
  intro W
  refine (Minus_any _ _ _ W).mono fun e w' ⟨he, hw⟩ => ⟨?_, hw⟩
  rw [he]
  refine congrArg Ending.returned (agg3 ?_ ?_ ?_)
  · unfold mag; split <;> split <;> omega
  · unfold mag; split <;> split <;> omega
  · by_cases h : z < 0
    · rw [Bool.eq_iff_iff]; simp [h]; omega
    · rw [mag_pos h, Bool.eq_iff_iff]; simp [h]; omega

theorem Plus_of (x y : Int) (hx : fit128 x) (hy : fit128 y) (hs : fit128 (x + y)) : Makes 51 #[bigOf x, bigOf y] (bigOf (x + y)) := by
  unfold fit128 at hx hy hs
  intro W
  by_cases h1 : x < 0 <;> by_cases h2 : y < 0
  · have d1 : decide (x < 0) = true := by simpa using h1
    have d2 : decide (y < 0) = true := by simpa using h2
    have h3 : x + y < 0 := by omega
    have d3 : decide (x + y < 0) = true := by simpa using h3
    unfold bigOf
    rw [mag_neg h1, mag_neg h2, mag_neg h3, d1, d2, d3]
    refine (Plus_same _ _ _ _ _ W (by omega) (by omega) (by omega) (by omega) (by omega) (by omega) (by omega)).mono fun e w' ⟨he, hw⟩ => ⟨?_, hw⟩
    rw [he]
    refine congrArg Ending.returned (agg3 ?_ ?_ rfl)
    · split <;> omega
    · split <;> omega
  · have d1 : decide (x < 0) = true := by simpa using h1
    have d2 : decide (y < 0) = false := by simpa using h2
    have m3 : mag (x + y) = if -x < y then y - (-x) else -x - (y) := by unfold mag; split <;> split <;> omega
    unfold bigOf
    rw [mag_neg h1, mag_pos h2, d1, d2, m3]
    by_cases hl : -x < y
    · rw [if_pos hl]
      by_cases hk : ((y) % 18446744073709551616) < ((-x) % 18446744073709551616)
      · refine (Plus_lct _ _ _ _ (decide (x + y < 0)) W (by omega) (by omega) (by omega) (by omega) (by omega) (by omega) (by omega) (by omega) (by omega) (by omega) (by simp only [decide_eq_true_eq]; omega) (by rw [Bool.false_and]; exact (decide_eq_false (by omega)).symm)).mono fun e w' ⟨he, hw⟩ => ⟨?_, hw⟩
        rw [he]
        exact congrArg Ending.returned (agg3 (by omega) (by omega) rfl)
      · refine (Plus_lnt _ _ _ _ (decide (x + y < 0)) W (by omega) (by omega) (by omega) (by omega) (by omega) (by omega) (by omega) (by omega) (by omega) (by omega) (by simp only [decide_eq_true_eq]; omega) (by rw [Bool.false_and]; exact (decide_eq_false (by omega)).symm)).mono fun e w' ⟨he, hw⟩ => ⟨?_, hw⟩
        rw [he]
        exact congrArg Ending.returned (agg3 (by omega) (by omega) rfl)
    · rw [if_neg hl]
      by_cases hk : ((-x) % 18446744073709551616) < ((y) % 18446744073709551616)
      · refine (Plus_gct _ _ _ _ (decide (x + y < 0)) W (by omega) (by omega) (by omega) (by omega) (by omega) (by omega) (by omega) (by omega) (by omega) (by omega) (by simp only [decide_eq_false_iff_not]; omega) (by rw [Bool.eq_iff_iff]; simp only [Bool.and_eq_true, Bool.not_eq_true', Bool.and_eq_false_iff, beq_eq_false_iff_ne, decide_eq_true_eq, ne_eq, true_and, Bool.false_eq_true, false_and]; omega)).mono fun e w' ⟨he, hw⟩ => ⟨?_, hw⟩
        rw [he]
        exact congrArg Ending.returned (agg3 (by omega) (by omega) rfl)
      · refine (Plus_gnt _ _ _ _ (decide (x + y < 0)) W (by omega) (by omega) (by omega) (by omega) (by omega) (by omega) (by omega) (by omega) (by omega) (by omega) (by simp only [decide_eq_false_iff_not]; omega) (by rw [Bool.eq_iff_iff]; simp only [Bool.and_eq_true, Bool.not_eq_true', Bool.and_eq_false_iff, beq_eq_false_iff_ne, decide_eq_true_eq, ne_eq, true_and, Bool.false_eq_true, false_and]; omega)).mono fun e w' ⟨he, hw⟩ => ⟨?_, hw⟩
        rw [he]
        exact congrArg Ending.returned (agg3 (by omega) (by omega) rfl)
  · have d1 : decide (x < 0) = false := by simpa using h1
    have d2 : decide (y < 0) = true := by simpa using h2
    have m3 : mag (x + y) = if x < -y then -y - (x) else x - (-y) := by unfold mag; split <;> split <;> omega
    unfold bigOf
    rw [mag_pos h1, mag_neg h2, d1, d2, m3]
    by_cases hl : x < -y
    · rw [if_pos hl]
      by_cases hk : ((-y) % 18446744073709551616) < ((x) % 18446744073709551616)
      · refine (Plus_lcf _ _ _ _ (decide (x + y < 0)) W (by omega) (by omega) (by omega) (by omega) (by omega) (by omega) (by omega) (by omega) (by omega) (by omega) (by simp only [decide_eq_true_eq]; omega) (by rw [Bool.eq_iff_iff]; simp only [Bool.and_eq_true, Bool.not_eq_true', Bool.and_eq_false_iff, beq_eq_false_iff_ne, decide_eq_true_eq, ne_eq, true_and, Bool.false_eq_true, false_and]; omega)).mono fun e w' ⟨he, hw⟩ => ⟨?_, hw⟩
        rw [he]
        exact congrArg Ending.returned (agg3 (by omega) (by omega) rfl)
      · refine (Plus_lnf _ _ _ _ (decide (x + y < 0)) W (by omega) (by omega) (by omega) (by omega) (by omega) (by omega) (by omega) (by omega) (by omega) (by omega) (by simp only [decide_eq_true_eq]; omega) (by rw [Bool.eq_iff_iff]; simp only [Bool.and_eq_true, Bool.not_eq_true', Bool.and_eq_false_iff, beq_eq_false_iff_ne, decide_eq_true_eq, ne_eq, true_and, Bool.false_eq_true, false_and]; omega)).mono fun e w' ⟨he, hw⟩ => ⟨?_, hw⟩
        rw [he]
        exact congrArg Ending.returned (agg3 (by omega) (by omega) rfl)
    · rw [if_neg hl]
      by_cases hk : ((x) % 18446744073709551616) < ((-y) % 18446744073709551616)
      · refine (Plus_gcf _ _ _ _ (decide (x + y < 0)) W (by omega) (by omega) (by omega) (by omega) (by omega) (by omega) (by omega) (by omega) (by omega) (by omega) (by simp only [decide_eq_false_iff_not]; omega) (by rw [Bool.false_and]; exact (decide_eq_false (by omega)).symm)).mono fun e w' ⟨he, hw⟩ => ⟨?_, hw⟩
        rw [he]
        exact congrArg Ending.returned (agg3 (by omega) (by omega) rfl)
      · refine (Plus_gnf _ _ _ _ (decide (x + y < 0)) W (by omega) (by omega) (by omega) (by omega) (by omega) (by omega) (by omega) (by omega) (by omega) (by omega) (by simp only [decide_eq_false_iff_not]; omega) (by rw [Bool.false_and]; exact (decide_eq_false (by omega)).symm)).mono fun e w' ⟨he, hw⟩ => ⟨?_, hw⟩
        rw [he]
        exact congrArg Ending.returned (agg3 (by omega) (by omega) rfl)
  · have d1 : decide (x < 0) = false := by simpa using h1
    have d2 : decide (y < 0) = false := by simpa using h2
    have h3 : ¬ x + y < 0 := by omega
    have d3 : decide (x + y < 0) = false := by simpa using h3
    unfold bigOf
    rw [mag_pos h1, mag_pos h2, mag_pos h3, d1, d2, d3]
    refine (Plus_same _ _ _ _ _ W (by omega) (by omega) (by omega) (by omega) (by omega) (by omega) (by omega)).mono fun e w' ⟨he, hw⟩ => ⟨?_, hw⟩
    rw [he]
    refine congrArg Ending.returned (agg3 ?_ ?_ rfl)
    · split <;> omega
    · split <;> omega

theorem With_of (w v : Int) (h1 : 1 ≤ w) (h2 : w ≤ 64) (hv : 0 ≤ v) (hv' : v ≤ 18446744073709551615) : Makes 37 #[.int .i64 w, .int .u64 v] (bigOf (sgn w v)) := by
  have := sgn_bd w v
  exact (With_any w v h1 h2 hv hv').as (big_of (by omega))
theorem Plain_of (w v : Int) (h1 : 1 ≤ w) (h2 : w ≤ 64) (hv : 0 ≤ v) (hv' : v ≤ 18446744073709551615) : Makes 47 #[.int .i64 w, .int .u64 v] (bigOf (v % pw w.toNat)) := by
  have hm := mod_u64 v h1 h2
  refine (Plain_any w v h1 h2 hv hv').as ?_
  rw [← big_of (by omega), mag_pos (by omega)]
  exact agg3 rfl rfl (by simp; omega)
theorem Wrapped_of (w z : Int) (h1 : 1 ≤ w) (h2 : w ≤ 64) : Makes 36 #[.int .i64 w, bigOf z] (.int .u64 (z % pw w.toNat)) := by
  refine (Wrapped_any w _ _ _ h1 h2 (by omega) (by omega)).as (one_eq ?_)
  have hd := pw_dvd64 (n := w.toNat) (by omega)
  have key : ∀ a b : Int, (∃ q, a = b + 18446744073709551616 * q) → a % pw w.toNat = b % pw w.toNat := by
    rintro a b ⟨q, rfl⟩
    rw [← hd, Int.mul_assoc, Int.add_mul_emod_self_left]
  apply key
  by_cases h : z < 0
  · rw [mag_neg h]; simp only [h, decide_true, if_true]
    exact ⟨(-z) / 18446744073709551616, by omega⟩
  · rw [mag_pos h]; simp only [h, decide_false, Bool.false_eq_true, if_false]
    exact ⟨-(z / 18446744073709551616), by omega⟩
end Go.Proofs.Ythhdgfhndijmeaa
