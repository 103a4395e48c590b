/- EvalRefines: plain facts of the row of better ones. -/
import Derived.Test.YtkbkgbkoplcgeaaEvN
namespace Go.Proofs.Ytkbkgbkoplcgeaa
open Go.RowKit Go.Maps
set_option linter.unusedVariables false
set_option linter.unusedSimpArgs false
set_option maxRecDepth 100000
set_option maxHeartbeats 1000000


theorem app3 (op ty fl x y : Int) : (appE op ty fl x y).2 ≠ 3 := by
  unfold appE
  rcases pl_three ty.toNat op x y with h | h | h
  · rcases aplE_bit (fl := fl) h with e | e
    · rw [if_pos e]; exact (show (0 : Int) ≠ 3 by decide)
    · rw [if_neg (by rw [e]; decide), if_pos e]; decide
  · have e : aplE ty.toNat op fl x y = 2 := by unfold aplE; rw [if_neg (by rw [h]; decide), h]
    rw [e, if_neg (by decide), if_neg (by decide)]; decide
  · have e : aplE ty.toNat op fl x y = 1 := by unfold aplE; rw [if_neg (by rw [h]; decide), h]
    rw [e, if_neg (by decide), if_pos rfl]; decide
theorem join3 (op ty fl : Int) (a b : EV) : (joinE op ty fl a b).2 ≠ 3 := by
  cases a <;> cases b <;> first | exact app3 _ _ _ _ _ | exact (show (0 : Int) ≠ 3 by decide) | exact (show (4 : Int) ≠ 3 by decide)
theorem div3 (op ty fl : Int) (a b : EV) : (divE op ty fl a b).2 ≠ 3 := by
  cases b with
  | num y =>
    unfold divE
    by_cases h0 : y = 0
    · simp only [if_pos h0]; exact (show (2 : Int) ≠ 3 by decide)
    · simp only [if_neg h0]
      by_cases h1 : (op = 5 ∨ op = 7) ∧ y = msk ty
      · simp only [if_pos h1]
        cases a <;> first | exact (show (2 : Int) ≠ 3 by decide) | exact (show (4 : Int) ≠ 3 by decide) | exact join3 _ _ _ _ _
      · simp only [if_neg h1]; exact join3 _ _ _ _ _
  | poi => exact (show (2 : Int) ≠ 3 by decide)
  | adr x y => exact (show (2 : Int) ≠ 3 by decide)
  | any => exact (show (4 : Int) ≠ 3 by decide)
theorem shf3 (op ty fl : Int) (a b : EV) : (shfE op ty fl a b).2 ≠ 3 := by
  cases b with
  | num y =>
    unfold shfE
    by_cases h0 : ty ≤ y
    · simp only [if_pos h0]; exact (show (0 : Int) ≠ 3 by decide)
    · simp only [if_neg h0]; exact join3 _ _ _ _ _
  | any => exact (show (0 : Int) ≠ 3 by decide)
  | _ => exact join3 _ _ _ _ _
theorem mad3 (op ty n fl : Int) (a b c : EV) : (madE op ty n fl a b c).2 ≠ 3 := by
  unfold madE
  repeat' split
  all_goals first | exact div3 _ _ _ _ _ | exact shf3 _ _ _ _ _ | exact join3 _ _ _ _ _ | exact (show (0 : Int) ≠ 3 by decide)
theorem eval3 {op ty n fl : Int} {l : List Vl} (h : (evalE op ty n fl l).2 = 3) : evalE op ty n fl l = (.poi, 3) := by
  unfold evalE at h ⊢
  split
  · rename_i hc; rw [if_pos hc] at h; exact absurd h (mad3 _ _ _ _ _ _ _)
  · rfl
theorem eval_frm {op ty n fl : Int} {l : List Vl} (h : (evalE op ty n fl l).2 ≠ 3) : frmE op ty n fl = true ∧ (l.length : Int) = cntE op := by
  unfold evalE at h
  by_cases hc : frmE op ty n fl = true ∧ (l.length : Int) = cntE op
  · exact hc
  · rw [if_neg hc] at h; exact absurd rfl h
theorem typs_get {op ty n : Int} (k : Nat) (h29 : op = 29 → ty = 65) (hk : (k : Int) < cntE op) (h : k < (typsE op ty n).length) : (typsE op ty n)[k] = wntE op ty n k := by
  have e : (typsE op ty n)[k]? = some (wntE op ty n k) := by
    unfold cntE at hk
    unfold typsE wntE
    by_cases h1 : op = 20 ∨ op = 21 ∨ op = 22
    · rw [if_pos h1, if_pos h1]
      have hk0 : k = 0 := by
        split at hk <;> omega
      subst hk0
      simp
    · rw [if_neg h1, if_neg h1]
      by_cases h2 : op = 23
      · rw [if_pos h2, if_pos h2]
        have : k = 0 ∨ k = 1 ∨ k = 2 := by
          split at hk <;> first | omega | (split at hk <;> omega)
        rcases this with rfl | rfl | rfl <;> simp
      · rw [if_neg h2, if_neg h2]
        have hk2 : k = 0 ∨ k = 1 := by
          split at hk
          · omega
          · first | omega | (split at hk <;> omega)
        by_cases h3 : op = 29
        · rw [if_pos h3, if_pos h3, h29 h3]
          rcases hk2 with rfl | rfl <;> simp
        · rw [if_neg h3, if_neg h3]
          rcases hk2 with rfl | rfl <;> simp
  rw [List.getElem?_eq_getElem h] at e
  injection e
theorem typs_len (op ty n : Int) : cntE op ≤ ((typsE op ty n).length : Int) := by
  unfold cntE typsE
  repeat' split
  all_goals first | (simp; done) | (simp; omega) | omega
/-- The better ones of two rows. -/
def mixV (bet : Nat → Bool) (l l' : List Vl) : List Vl := (List.range l.length).map fun i => if bet i = true then l'.getD i p0 else l.getD i p0
theorem mix_len (bet : Nat → Bool) (l l' : List Vl) : (mixV bet l l').length = l.length := by unfold mixV; simp
theorem mix_get (bet : Nat → Bool) (l l' : List Vl) (i : Nat) : (mixV bet l l').getD i p0 = if i < l.length then (if bet i = true then l'.getD i p0 else l.getD i p0) else p0 := by
  unfold mixV
  rw [List.getD_eq_getElem?_getD, List.getElem?_map]
  by_cases h : i < l.length
  · rw [if_pos h, List.getElem?_range h]; rfl
  · rw [if_neg h, List.getElem?_eq_none (by simp; omega)]; rfl
theorem getD_at (l : List Vl) (i : Nat) (h : i < l.length) : l.getD i p0 = l[i] := by rw [List.getD_eq_getElem?_getD, List.getElem?_eq_getElem h]; rfl
theorem mix_eq {bet : Nat → Bool} {l l' R : List Vl} (hle : l.length ≤ l'.length) (h : R.length = l.length) (hR : ∀ i (h : i < R.length) (h1 : i < l.length) (h2 : i < l'.length), R[i] = if bet i = true then l'[i] else l[i]) : R = mixV bet l l' := by
  refine List.ext_getElem (by rw [mix_len, h]) fun i h1 h2 => ?_
  have hi : i < l.length := by rw [← h]; exact h1
  rw [hR i h1 hi (by omega), ← getD_at _ i h2, mix_get, if_pos hi, getD_at l i hi, getD_at l' i (by omega)]
theorem mix_ok {bet : Nat → Bool} {l l' : List Vl} (h : ∀ v ∈ l, v.ok) (h' : ∀ v ∈ l', v.ok) : ∀ v ∈ mixV bet l l', v.ok := fun v hv => by
  unfold mixV at hv
  obtain ⟨i, _, rfl⟩ := List.mem_map.1 hv
  have gd : ∀ (m : List Vl), (∀ v ∈ m, v.ok) → (m.getD i p0).ok := fun m hm => by
    rw [List.getD_eq_getElem?_getD]
    cases e : m[i]? with
    | none => exact ok0
    | some x => exact hm x (List.mem_of_getElem? e)
  split
  · exact gd l' h'
  · exact gd l h
theorem eval_mono {op ty n fl : Int} {l l' : List Vl} (h : (evalE op ty n fl l).2 ≠ 3) : Cmp (evalE op ty n fl l) (evalE op ty n fl (mixV (fun i => betE (nf (wntE op ty n i) (l.getD i p0)) (nf (wntE op ty n i) (l'.getD i p0))) l l')) := by
  have hc := eval_frm h
  have hc' : frmE op ty n fl = true ∧ (((mixV (fun i => betE (nf (wntE op ty n i) (l.getD i p0)) (nf (wntE op ty n i) (l'.getD i p0))) l l').length : Nat) : Int) = cntE op := ⟨hc.1, by rw [mix_len]; exact hc.2⟩
  have hb : ∀ i : Nat, betE (nf (wntE op ty n i) (l.getD i p0)) (nf (wntE op ty n i) ((mixV (fun i => betE (nf (wntE op ty n i) (l.getD i p0)) (nf (wntE op ty n i) (l'.getD i p0))) l l').getD i p0)) = true := fun i => by
    rw [mix_get]
    by_cases hi : i < l.length
    · rw [if_pos hi]
      by_cases hx : betE (nf (wntE op ty n i) (l.getD i p0)) (nf (wntE op ty n i) (l'.getD i p0)) = true
      · rw [if_pos hx]; exact hx
      · rw [if_neg hx]; exact betE_refl _
    · rw [if_neg hi]
      have : l.getD i p0 = p0 := by rw [List.getD_eq_getElem?_getD, List.getElem?_eq_none (by omega)]; rfl
      rw [this]; exact betE_refl _
  have ht : typE op ty n = true := by
    have := hc.1
    unfold frmE at this
    simp at this
    exact this.2
  unfold evalE
  rw [if_pos hc, if_pos hc']
  exact mad_mono ht (nf_fit _ _) (nf_fit _ _) (nf_fit _ _) (hb 0) (hb 1) (hb 2)
end Go.Proofs.Ytkbkgbkoplcgeaa
