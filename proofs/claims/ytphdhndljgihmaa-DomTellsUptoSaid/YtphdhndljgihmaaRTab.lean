/- The document's table of dominance: a list of lists of bools of one's own. -/
import Derived.Test.YtphdhndljgihmaaVReach
import Derived.Test.YtphdhndljgihmaaRWith
namespace Go.Proofs.Ytphdhndljgihmaa
open Go.RowKit Go.Maps
set_option linter.unusedVariables false
set_option linter.unusedSimpArgs false

open Classical in
noncomputable def dmB (S : Nat → List Nat) (a b : Nat) : Bool := decide (Dm S a b)
theorem dmB_iff {S : Nat → List Nat} {a b : Nat} : dmB S a b = true ↔ Dm S a b := by unfold dmB; simp
theorem dmB_of {S : Nat → List Nat} {L : List Nat} {a b : Nat} (hL : ∀ x, x ∈ L ↔ Rch S x) : dmB S a b = (decide (a ∈ L) && decide (b ∈ L) && (decide (a = b) || !misB S a b)) := by
  rw [Bool.eq_iff_iff, dmB_iff]
  unfold Dm
  rw [← hL, ← hL]
  simp only [Bool.and_eq_true, Bool.or_eq_true, decide_eq_true_eq, Bool.not_eq_true', and_assoc]
  constructor
  · rintro ⟨h1, h2, h3⟩
    refine ⟨h1, h2, h3.imp_right fun h => ?_⟩
    cases e : misB S a b with
    | false => rfl
    | true => exact absurd (misB_iff.1 e) h
  · rintro ⟨h1, h2, h3⟩
    refine ⟨h1, h2, h3.imp_right fun h k => ?_⟩
    rw [misB_iff.2 k] at h
    cases h
/-- Rows of bools of one's own: k of n are there. -/
structure BB (R n k : Nat) (Bk : Nat → Nat) (M : Nat → Nat → Bool) (w : World) : Prop where
  row : w.rowIs R 38 n (fun i => if i < k then .slice (some ⟨Bk i, 0, none⟩) n n else .slice none 0 0)
  up : ∀ i, i < k → R < Bk i
  each : ∀ i, i < k → w.rowIs (Bk i) 4 n (fun j => .bool (M i j))
  ap : ∀ i j, i < j → j < k → Bk i < Bk j
section
variable {R n k : Nat} {Bk : Nat → Nat} {M : Nat → Nat → Bool} {w w' : World}
theorem BB.later (h : BB R n k Bk M w) (hb : Below w.heap.size w w') : BB R n k Bk M w' :=
  ⟨rowIs_kept h.row (below_grown hb) (by simp), h.up, fun i hi => rowIs_kept (h.each i hi) (below_grown hb) (by simp), h.ap⟩
theorem BB.new (w : World) (n : Nat) (Bk : Nat → Nat) (M : Nat → Nat → Bool) : BB w.heap.size n 0 Bk M (w.alloc (.cells (madeCells #[.slice none 0 0] n) 38)) :=
  ⟨(World.rowIs_made w (.slice none 0 0) n _).congr (fun i hi => by simp), fun i hi => absurd hi (Nat.not_lt_zero _), fun i hi => absurd hi (Nat.not_lt_zero _), fun i j _ hj => absurd hj (Nat.not_lt_zero _)⟩
theorem BB.congr {M' : Nat → Nat → Bool} (h : BB R n k Bk M w) (e : ∀ i j, i < k → j < n → M i j = M' i j) : BB R n k Bk M' w :=
  ⟨h.row, h.up, fun i hi => (h.each i hi).congr (fun j hj => by rw [e i j hi hj]), h.ap⟩
theorem BB.snoc (h : BB R n k Bk M w) (hk : k < n) : BB R n (k + 1) (fun i => if i = k then w.heap.size else Bk i) (fun i j => if i = k then false else M i j) ((w.alloc (.cells (madeCells #[.bool false] n) 4)).setCell ⟨R, k, none⟩ (.slice (some ⟨w.heap.size, 0, none⟩) n n)) := by
  have h1 := h.later ((Below.refl _ _).alloc (Nat.le_refl _) (.cells (madeCells #[.bool false] n) 4))
  have hr := h.row.lt
  refine ⟨(h1.row.set k _).congr (fun i hi => ?_), fun i hi => ?_, fun i hi => ?_, fun i j hij hj => ?_⟩
  · by_cases e : i = k
    · subst e; simp
    · rw [if_neg e]
      by_cases e2 : i < k
      · rw [if_pos e2, if_pos (by omega), if_neg e]
      · rw [if_neg e2, if_neg (by omega)]
  · by_cases e : i = k
    · simp only [if_pos e]; exact hr
    · simp only [if_neg e]; exact h.up i (by omega)
  · by_cases e : i = k
    · simp only [if_pos e]
      exact (World.rowIs_made w (.bool false) n 4).setOther (by dsimp only; omega) _
    · simp only [if_neg e]
      have := h.up i (by omega)
      exact (h1.each i (by omega)).setOther (by dsimp only; omega) _
  · have hlt : ∀ x, x < k → Bk x < w.heap.size := fun x hx => (h.each x hx).lt
    by_cases e : j = k
    · have ei : ¬ i = k := by omega
      simp only [if_pos e, if_neg ei]
      exact hlt i (by omega)
    · have ei : ¬ i = k := by omega
      simp only [if_neg e, if_neg ei]
      exact h.ap i j hij (by omega)
theorem BB.set (h : BB R n k Bk M w) {a b : Nat} (ha : a < k) (v : Bool) : BB R n k Bk (fun i j => if i = a ∧ j = b then v else M i j) (w.setCell ⟨Bk a, b, none⟩ (.bool v)) := by
  have hne : ∀ i, i < k → i ≠ a → Bk i ≠ Bk a := fun i hi hia => by
    rcases Nat.lt_or_gt_of_ne hia with e | e
    · have := h.ap i a e ha; omega
    · have := h.ap a i e hi; omega
  have hup := h.up a ha
  refine ⟨h.row.setOther (by dsimp only; omega) _, h.up, fun i hi => ?_, h.ap⟩
  by_cases e : i = a
  · subst e
    exact ((h.each i hi).set b _).congr (fun j hj => by
      by_cases e : j = b
      · subst e; simp
      · simp [e])
  · exact ((h.each i hi).setOther (by have := hne i hi e; dsimp only; omega) _).congr (fun j hj => by simp [e])
end
/-- What Table answers. -/
def OwnTab (n : Nat) (M : Nat → Nat → Bool) (W : World) (e : Ending) (w' : World) : Prop :=
  ∃ R Bk, e = .returned (.slice (some ⟨R, 0, none⟩) n n) ∧ Past W.heap.size W w' ∧ W.heap.size ≤ R ∧ BB R n n Bk M w'
end Go.Proofs.Ytphdhndljgihmaa
