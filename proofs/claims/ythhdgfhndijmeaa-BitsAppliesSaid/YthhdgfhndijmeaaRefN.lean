/- Contract of the document's answers (package latheref01): divided, in whole numbers. -/
import Derived.Test.YthhdgfhndijmeaaRefM
namespace Go.Proofs.Ythhdgfhndijmeaa
open Go.RowKit
set_option linter.unusedVariables false
set_option linter.unusedSimpArgs false

theorem tdiv_in {s t H : Int} (hH : 1 ≤ H) (s1 : -H ≤ s) (s2 : s < H) (t0 : t ≠ 0) : (-H ≤ s.tdiv t ∧ s.tdiv t < H) ↔ ¬ (s = -H ∧ t = -1) := by
  have hn : (s.tdiv t).natAbs = s.natAbs / t.natAbs := Int.natAbs_tdiv s t
  by_cases h : t = -1
  · subst h
    rw [Int.tdiv_neg, Int.tdiv_one]; omega
  · by_cases h1 : t = 1
    · subst h1
      rw [Int.tdiv_one]; omega
    · have h2 : s.natAbs / t.natAbs ≤ s.natAbs / 2 := Nat.div_le_div_left (by omega) (by omega)
      generalize s.tdiv t = z at *
      omega
theorem sg_ends {n : Nat} (h1 : 1 ≤ n) {x y : Int} (hx : 0 ≤ x) (hx' : x < pw n) (hy : 0 ≤ y) (hy' : y < pw n) : (sg n x = -pw (n - 1) ∧ sg n y = -1) ↔ (x = pw (n - 1) ∧ y = pw n - 1) := by
  have hh := pw_half h1
  have hp := pw_pos (n - 1)
  unfold sg
  split <;> split <;> omega
theorem rest_u64 {s t : Int} (hs : -18446744073709551616 < s ∧ s < 18446744073709551616) : (mag (s.tmod t) % 18446744073709551616 != 0) = (s.tmod t != 0) := by
  have hn : (s.tmod t).natAbs = s.natAbs % t.natAbs := Int.natAbs_tmod s t
  have hl : s.natAbs % t.natAbs ≤ s.natAbs := Nat.mod_le _ _
  generalize s.tmod t = z at *
  rw [Bool.eq_iff_iff]
  simp only [bne_iff_ne, ne_eq]
  unfold mag
  split <;> omega
theorem quo_mod {x y M : Int} (hx : 0 ≤ x) (hx' : x < M) (hy : 0 ≤ y) : x.tdiv y % M = x / y := by
  rw [Int.tdiv_eq_ediv_of_nonneg hx]
  have h1 : 0 ≤ x / y := Int.ediv_nonneg hx hy
  have h2 := Int.ediv_le_self y hx
  exact Int.emod_eq_of_lt h1 (by omega)
theorem quo_fits {x y M : Int} (hx : 0 ≤ x) (hx' : x < M) (hy : 0 ≤ y) : (x.tdiv y % M == x.tdiv y) = true := by
  rw [quo_mod hx hx' hy, Int.tdiv_eq_ediv_of_nonneg hx]; exact beq_self_eq_true _
theorem plE_5 {n : Nat} {op x y : Int} (ho : op = 5 ∨ op = 7) : plE n op x y = if y = 0 ∨ (x = pw (n - 1) ∧ y = pw n - 1) then 2 else 0 := by
  rcases ho with rfl | rfl <;> rfl
theorem plE_4 {n : Nat} {op x y : Int} (ho : op = 4 ∨ op = 6) : plE n op x y = if y = 0 then 2 else 0 := by
  rcases ho with rfl | rfl <;> rfl
theorem brB_div {n : Nat} {op fl x y : Int} (hf : fl = 0 ∨ fl = 4) : brB n op fl x y = (decide (fl = 4) && lrB n op x y) := by
  unfold brB
  rcases hf with rfl | rfl <;> simp

theorem divided_of (op w fl a b : Int) (ho : (op = 4 ∨ op = 5) ∧ (fl = 0 ∨ fl = 4) ∨ (op = 6 ∨ op = 7) ∧ fl = 0) (h1 : 1 ≤ w) (h2 : w ≤ 64) (ha : 0 ≤ a) (ha' : a ≤ 18446744073709551615) (hb : 0 ≤ b) (hb' : b ≤ 18446744073709551615) :
    Makes 31 #[.int .i64 op, .int .i64 w, .int .i64 fl, .int .u64 a, .int .u64 b] (aplT w op fl a b) := by
  intro W
  have hp := pw_pos w.toNat
  have hl := pw_le64 (n := w.toNat) (by omega)
  have x0 := Int.emod_nonneg a (show pw w.toNat ≠ 0 by omega)
  have x1 := Int.emod_lt_of_pos a hp
  have y0 := Int.emod_nonneg b (show pw w.toNat ≠ 0 by omega)
  have y1 := Int.emod_lt_of_pos b hp
  have c0 := fun W => Cut_any w b W h1 h2 hb hb'
  by_cases hy : b % pw w.toNat = 0
  · rw [hy] at c0
    refine (divided_zero op w fl a b W c0).mono fun e w' ⟨he, hw⟩ => ⟨?_, hw⟩
    rw [he]
    have hE : plE w.toNat op (a % pw w.toNat) (b % pw w.toNat) = 2 := by
      rw [hy]
      rcases ho with ⟨rfl | rfl, _⟩ | ⟨rfl | rfl, _⟩
      · rw [plE_4 (by decide), if_pos rfl]
      · rw [plE_5 (by decide), if_pos (Or.inl rfl)]
      · rw [plE_4 (by decide), if_pos rfl]
      · rw [plE_5 (by decide), if_pos (Or.inl rfl)]
    unfold aplT aplR aplE
    rw [hE]
    rfl
  · have c1 := Plain_of w a h1 h2 ha ha'
    have c2 := Plain_of w b h1 h2 hb hb'
    have c3 := With_of w a h1 h2 ha ha'
    have c4 := With_of w b h1 h2 hb hb'
    have sb := sgn_bd w a
    have tb := sgn_bd w b
    have es := sgn_in a h1 h2
    have et := sgn_in b h1 h2
    have sb2 := sg_bd (n := w.toNat) (by omega) x0 x1
    have hH := pw_pos (w.toNat - 1)
    have tz := sg_nz (n := w.toNat) (by omega) y0 y1 hy
    have hin := tdiv_in (by omega) sb2.1 sb2.2 tz
    rw [sg_ends (by omega) x0 x1 y0 y1] at hin
    have tz' : sgn w b ≠ 0 := by rw [et]; exact tz
    have cq := quotient_of (sgn w a) (sgn w b) ⟨by omega, by omega⟩ ⟨by omega, by omega⟩ tz'
    have cu := quotient_of (a % pw w.toNat) (b % pw w.toNat) ⟨by omega, by omega⟩ ⟨by omega, by omega⟩ hy
    have hfS : (sgn w ((sgn w a).tdiv (sgn w b) % pw w.toNat) == (sgn w a).tdiv (sgn w b)) = decide (¬ (a % pw w.toNat = pw (w.toNat - 1) ∧ b % pw w.toNat = pw w.toNat - 1)) := by
      rw [fit_s h1 h2, es, et, decide_eq_decide]; exact hin
    have hE4 : ∀ op, op = 4 ∨ op = 6 → plE w.toNat op (a % pw w.toNat) (b % pw w.toNat) = 0 := fun op h => by rw [plE_4 h, if_neg hy]
    have hE5 : ∀ op, op = 5 ∨ op = 7 → plE w.toNat op (a % pw w.toNat) (b % pw w.toNat) = if a % pw w.toNat = pw (w.toNat - 1) ∧ b % pw w.toNat = pw w.toNat - 1 then 2 else 0 := fun op h => by
      rw [plE_5 h]
      by_cases hc : a % pw w.toNat = pw (w.toNat - 1) ∧ b % pw w.toNat = pw w.toNat - 1
      · rw [if_pos (Or.inr hc), if_pos hc]
      · rw [if_neg (fun h => h.elim hy hc), if_neg hc]
    have rS := rest_u64 (s := sgn w a) (t := sgn w b) ⟨by omega, by omega⟩
    have rU := rest_u64 (s := a % pw w.toNat) (t := b % pw w.toNat) ⟨by omega, by omega⟩
    have eU : (a % pw w.toNat).tmod (b % pw w.toNat) = a % pw w.toNat % (b % pw w.toNat) := Int.tmod_eq_emod_of_nonneg x0
    rcases ho with ⟨rfl | rfl, hf⟩ | ⟨rfl | rfl, rfl⟩
    · refine (divided_4 _ _ _ _ _ _ _ _ _ _ _ _ _ _ _ _ _ _ _ W hy hf c0 c1 c2 cu (fits_of w _ h1 h2 false) (Wrapped_of w _ h1 h2)).mono fun e w' ⟨he, hw⟩ => ⟨?_, hw⟩
      rw [he]
      refine congrArg Ending.returned ?_
      simp only [Bool.false_eq_true, if_false]
      rw [quo_fits x0 x1 y0, rU, eU, quo_mod x0 x1 y0]
      unfold aplT aplR aplE
      rw [hE4 4 (by decide), brB_div hf]
      simp only [if_true, lrB]
      cases hc : decide (fl = 4) && a % pw w.toNat % (b % pw w.toNat) != 0 <;> exact two_eq rfl rfl
    · refine (divided_5 _ _ _ _ _ _ _ _ _ _ _ _ _ _ _ _ _ _ _ _ _ _ _ _ _ W hy hf c0 c1 c2 c3 c4 cq (fits_of w _ h1 h2 true) (Wrapped_of w _ h1 h2)).mono fun e w' ⟨he, hw⟩ => ⟨?_, hw⟩
      rw [he]
      refine congrArg Ending.returned ?_
      simp only [if_true]
      rw [hfS, rS]
      unfold aplT aplR aplE
      rw [hE5 5 (by decide), brB_div hf]
      by_cases hc : a % pw w.toNat = pw (w.toNat - 1) ∧ b % pw w.toNat = pw w.toNat - 1
      · rw [decide_eq_false (not_not_intro hc), if_pos hc]
        exact two_eq rfl rfl
      · rw [decide_eq_true hc, if_neg hc]
        simp only [if_true, lrB, ← es, ← et, show ¬ (5 : Int) = 4 by decide, if_false]
        cases hd : decide (fl = 4) && (sgn w a).tmod (sgn w b) != 0
        · exact two_eq (by rw [es, et]; rfl) rfl
        · exact two_eq rfl rfl
    · refine (divided_6 _ _ _ _ _ _ _ _ _ _ _ _ _ _ _ _ _ _ _ W hy (Or.inl rfl) c0 c1 c2 cu (fits_of w _ h1 h2 false) (Wrapped_of w _ h1 h2)).mono fun e w' ⟨he, hw⟩ => ⟨?_, hw⟩
      rw [he]
      refine congrArg Ending.returned ?_
      simp only [Bool.false_eq_true, if_false]
      rw [quo_fits x0 x1 y0, eU]
      unfold aplT aplR aplE
      rw [hE4 6 (by decide), brB_div (Or.inl rfl)]
      have m0 := Int.emod_nonneg (a % pw w.toNat) hy
      have m1 := Int.emod_lt_of_pos (a % pw w.toNat) (show 0 < b % pw w.toNat by omega)
      rw [Int.emod_eq_of_lt m0 (by omega)]
      exact two_eq rfl rfl
    · refine (divided_7 _ _ _ _ _ _ _ _ _ _ _ _ _ _ _ _ _ _ _ _ _ _ _ _ _ W hy (Or.inl rfl) c0 c1 c2 c3 c4 cq (fits_of w _ h1 h2 true) (Wrapped_of w _ h1 h2)).mono fun e w' ⟨he, hw⟩ => ⟨?_, hw⟩
      rw [he]
      refine congrArg Ending.returned ?_
      simp only [if_true]
      rw [hfS]
      unfold aplT aplR aplE
      rw [hE5 7 (by decide), brB_div (Or.inl rfl)]
      by_cases hc : a % pw w.toNat = pw (w.toNat - 1) ∧ b % pw w.toNat = pw w.toNat - 1
      · rw [decide_eq_false (not_not_intro hc), if_pos hc]
        exact two_eq rfl rfl
      · rw [decide_eq_true hc, if_neg hc]
        exact two_eq (by rw [es, et]; rfl) rfl
end Go.Proofs.Ythhdgfhndijmeaa
