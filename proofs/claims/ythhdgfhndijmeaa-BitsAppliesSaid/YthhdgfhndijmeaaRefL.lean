/- Contract of the document's answers (package latheref01): flagged, in whole numbers. -/
import Derived.Test.YthhdgfhndijmeaaRefK
namespace Go.Proofs.Ythhdgfhndijmeaa
open Go.RowKit
set_option linter.unusedVariables false
set_option linter.unusedSimpArgs false

theorem fit_u {n : Nat} (z : Int) : (z % pw n == z) = decide (0 ≤ z ∧ z < pw n) := by
  have hp := pw_pos n
  rw [Bool.eq_iff_iff, beq_iff_eq, decide_eq_true_eq]
  constructor
  · intro h
    have h1 := Int.emod_nonneg z (show pw n ≠ 0 by omega)
    have h2 := Int.emod_lt_of_pos z hp
    omega
  · rintro ⟨h1, h2⟩; exact Int.emod_eq_of_lt h1 h2
theorem fit_s {w : Int} (h1 : 1 ≤ w) (h2 : w ≤ 64) (z : Int) : (sgn w (z % pw w.toNat) == z) = decide (-pw (w.toNat - 1) ≤ z ∧ z < pw (w.toNat - 1)) := by
  have hp := pw_pos w.toNat
  rw [Bool.eq_iff_iff, beq_iff_eq, decide_eq_true_eq, sgn_in _ h1 h2, Int.emod_emod]
  constructor
  · intro h
    have h3 := sg_bd (n := w.toNat) (by omega) (Int.emod_nonneg z (show pw w.toNat ≠ 0 by omega)) (Int.emod_lt_of_pos z hp)
    omega
  · rintro ⟨h3, h4⟩; exact sg_uniq (by omega) ⟨0, by omega⟩ h3 h4
theorem k_flags (fl : Int) (hf : fl = 0 ∨ fl = 1 ∨ fl = 2 ∨ fl = 3) : ∃ n1 n2 : Int, bits .and .i64 fl 2 = n2 ∧ bits .and .i64 fl 1 = n1 ∧ (n2 = 0 ∨ n2 = 2) ∧ (n1 = 0 ∨ n1 = 1) ∧ (n2 != 0) = decide (fl = 2 ∨ fl = 3) ∧ (n1 != 0) = decide (fl = 1 ∨ fl = 3) := by
  rcases hf with rfl | rfl | rfl | rfl
  · exact ⟨0, 0, by decide +kernel, by decide +kernel, by decide, by decide, by decide, by decide⟩
  · exact ⟨1, 0, by decide +kernel, by decide +kernel, by decide, by decide, by decide, by decide⟩
  · exact ⟨0, 2, by decide +kernel, by decide +kernel, by decide, by decide, by decide, by decide⟩
  · exact ⟨1, 2, by decide +kernel, by decide +kernel, by decide, by decide, by decide, by decide⟩
theorem flagged_eq {n : Nat} {op fl x y n1 n2 V : Int} (f1 f2 : Bool) (hf : fl = 0 ∨ fl = 1 ∨ fl = 2 ∨ fl = 3) (e2 : (n2 != 0) = decide (fl = 2 ∨ fl = 3)) (e1 : (n1 != 0) = decide (fl = 1 ∨ fl = 3))
    (h1 : f1 = !wrB n op x y) (h2 : f2 = !wsB n op x y) (hp : plE n op x y = 0) (hV : V = plV n op x y) :
    Value.tuple #[.int .u64 (if (n2 != 0 && !f1) || (n1 != 0 && !f2) then 0 else V), .int .i64 (if (n2 != 0 && !f1) || (n1 != 0 && !f2) then 1 else 0)] = .tuple #[.int .u64 (aplR n op fl x y), .int .i64 (aplE n op fl x y)] := by
  subst h1 h2 hV
  have hb : brB n op fl x y = ((n2 != 0 && !!wrB n op x y) || (n1 != 0 && !!wsB n op x y)) := by
    have h4 : decide (fl = 4) = false := by rcases hf with rfl | rfl | rfl | rfl <;> rfl
    rw [e1, e2, brB, h4, Bool.false_and, Bool.or_false, Bool.not_not, Bool.not_not]
  rw [← hb]
  unfold aplR aplE
  rw [hp]
  cases brB n op fl x y <;> exact two_eq rfl rfl

theorem flagged_of (op w fl a b : Int) (ho : op = 1 ∨ op = 2 ∨ op = 3) (hf : fl = 0 ∨ fl = 1 ∨ fl = 2 ∨ fl = 3) (h1 : 1 ≤ w) (h2 : w ≤ 64) (ha : 0 ≤ a) (ha' : a ≤ 18446744073709551615) (hb : 0 ≤ b) (hb' : b ≤ 18446744073709551615) :
    Makes 30 #[.int .i64 op, .int .i64 w, .int .i64 fl, .int .u64 a, .int .u64 b] (aplT w op fl a b) := by
  intro W
  obtain ⟨n1, n2, k2, k1, hn, hm, e2, e1⟩ := k_flags fl hf
  have c1 := exact_of op w a b false ho h1 h2 ha ha' hb hb'
  have c2 := exact_of op w a b true ho h1 h2 ha ha' hb hb'
  have c3 := fits_of w (ex op (xOf w a false) (xOf w b false)) h1 h2 false
  have c4 := fits_of w (ex op (xOf w a true) (xOf w b true)) h1 h2 true
  have c5 := Wrapped_of w (ex op (xOf w a false) (xOf w b false)) h1 h2
  have h11 : (op == 11) = false := by rcases ho with rfl | rfl | rfl <;> rfl
  have h11' : ¬ op = 11 := by rcases ho with rfl | rfl | rfl <;> decide
  refine (flagged_n _ _ _ _ _ _ _ _ _ _ _ _ _ _ _ _ W h1 h2 h11 k2 k1 hn hm c1 c2 c3 c4 c5).mono fun e w' ⟨he, hw⟩ => ⟨?_, hw⟩
  rw [he]
  refine congrArg Ending.returned (flagged_eq _ _ hf e2 e1 ?_ ?_ ?_ ?_)
  · simp only [Bool.false_eq_true, if_false, xOf]
    rw [fit_u, wrB, Bool.not_not]
  · simp only [if_true, xOf]
    rw [fit_s h1 h2, wsB, Bool.not_not, if_neg h11', sgn_in a h1 h2, sgn_in b h1 h2]
  · rcases ho with rfl | rfl | rfl <;> rfl
  · rcases ho with rfl | rfl | rfl <;> rfl
theorem flagged_of11 (w fl a b : Int) (hf : fl = 0 ∨ fl = 1 ∨ fl = 2 ∨ fl = 3) (h1 : 1 ≤ w) (h2 : w ≤ 64) (ha : 0 ≤ a) (ha' : a ≤ 18446744073709551615) (hb : 0 ≤ b) (hb' : b ≤ 18446744073709551615) :
    Makes 30 #[.int .i64 11, .int .i64 w, .int .i64 fl, .int .u64 a, .int .u64 b] (aplT w 11 fl a b) := by
  intro W
  have hm0 := mod_u64 b h1 h2
  have c0 := fun W => Cut_any w b W h1 h2 hb hb'
  have hwn : ((w.toNat : Nat) : Int) = w := by omega
  by_cases hy : b % pw w.toNat < w
  · obtain ⟨n1, n2, k2, k1, hn, hm, e2, e1⟩ := k_flags fl hf
    have c1 := exact_of11 w a b false h1 h2 ha ha' hb hb' hy
    have c2 := exact_of11 w a b true h1 h2 ha ha' hb hb' hy
    have c3 := fits_of w (ex 11 (xOf w a false) (b % pw w.toNat)) h1 h2 false
    have c4 := fits_of w (ex 11 (xOf w a true) (b % pw w.toNat)) h1 h2 true
    have c5 := Wrapped_of w (ex 11 (xOf w a false) (b % pw w.toNat)) h1 h2
    refine (flagged_11 _ _ _ _ _ _ _ _ _ _ _ _ _ _ _ W h1 h2 _ hm0.1 hy c0 k2 k1 hn hm c1 c2 c3 c4 c5).mono fun e w' ⟨he, hw⟩ => ⟨?_, hw⟩
    rw [he]
    refine congrArg Ending.returned (flagged_eq _ _ hf e2 e1 ?_ ?_ ?_ ?_)
    · simp only [Bool.false_eq_true, if_false, xOf]
      rw [fit_u, wrB, Bool.not_not]
    · simp only [if_true, xOf]
      rw [fit_s h1 h2, wsB, Bool.not_not, if_pos rfl, sgn_in a h1 h2]
    · simp only [plE, show ¬ ((11 : Int) = 4 ∨ (11 : Int) = 6) by decide, show ¬ ((11 : Int) = 5 ∨ (11 : Int) = 7) by decide, if_false, show ((11 : Int) = 11 ∨ (11 : Int) = 12 ∨ (11 : Int) = 13) by decide, if_true]
      rw [hwn, if_neg (show ¬ w ≤ b % pw w.toNat by omega)]; simp
    · rfl
  · refine (flagged_over w fl a b _ W h1 h2 hm0.1 (by omega) c0).mono fun e w' ⟨he, hw⟩ => ⟨?_, hw⟩
    rw [he]
    have hp : plE w.toNat 11 (a % pw w.toNat) (b % pw w.toNat) = 1 := by
      simp only [plE, show ¬ ((11 : Int) = 4 ∨ (11 : Int) = 6) by decide, show ¬ ((11 : Int) = 5 ∨ (11 : Int) = 7) by decide, if_false, show ((11 : Int) = 11 ∨ (11 : Int) = 12 ∨ (11 : Int) = 13) by decide, if_true]
      rw [hwn, if_pos (show w ≤ b % pw w.toNat by omega)]; simp
    unfold aplT aplR aplE
    rw [hp]
    rfl
end Go.Proofs.Ythhdgfhndijmeaa
