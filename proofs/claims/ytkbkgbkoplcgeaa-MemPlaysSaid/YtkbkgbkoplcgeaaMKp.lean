/- MemKeeps: what Store does, on what a memory shows. -/
import Derived.Test.YtkbkgbkoplcgeaaMWa
namespace Go.Proofs.Ytkbkgbkoplcgeaa
open Go.RowKit Go.Maps
set_option linter.unusedVariables false
set_option linter.unusedSimpArgs false

theorem dIn_at {D : Dm} {t : Int} {v : Vl} (h : dIn D t v = true) : ∃ l, atD D v.bk = some l ∧ v.k = 2 ∧ wd t ≠ 0 ∧ 0 ≤ v.o ∧ v.o + wd t ≤ l.length := by
  unfold dIn at h
  cases e : atD D v.bk with
  | none => rw [e] at h; cases h
  | some l => rw [e] at h; exact ⟨l, rfl, of_decide_eq_true h⟩
theorem atD_set {D : Dm} {k : Int} {l : List By} (h : atD D k = some l) (l' : List By) (j : Int) : atD (D.set k.toNat (some l')) j = if j = k then some l' else atD D j := by
  obtain ⟨h0, h1⟩ := atD_in h
  unfold atD
  by_cases hj : 0 ≤ j
  · rw [if_pos hj, if_pos hj, List.getD_eq_getElem?_getD, List.getD_eq_getElem?_getD, List.getElem?_set]
    by_cases e : j = k
    · subst e
      rw [if_pos rfl, if_pos rfl, if_pos (by omega)]
      rfl
    · rw [if_neg (by omega), if_neg e]
  · rw [if_neg hj, if_neg (by omega), if_neg hj]
theorem store_at {D : Dm} {t : Int} {x v : Vl} (h : dIn D t v = true) (j : Int) : dBytes (dStore D t x v) j = if j = v.bk then put (dBytes D v.bk) v.o.toNat (pack t x) else dBytes D j := by
  obtain ⟨l, hl, _⟩ := dIn_at h
  unfold dStore
  rw [if_pos h]
  unfold dBytes
  rw [atD_set hl]
  by_cases e : j = v.bk
  · rw [if_pos e, if_pos e]
  · rw [if_neg e, if_neg e]
theorem store_len {D : Dm} {t : Int} {x v : Vl} (h : dIn D t v = true) (j : Int) : (dBytes (dStore D t x v) j).length = (dBytes D j).length := by
  rw [store_at h]
  obtain ⟨l, hl, _, _, h0, h1⟩ := dIn_at h
  by_cases e : j = v.bk
  · rw [if_pos e, e, put_len]
    rw [pack_len]
    unfold dBytes
    rw [hl]
    show v.o.toNat + wd t ≤ l.length
    omega
  · rw [if_neg e]
theorem store_in {D : Dm} {t : Int} {x v : Vl} (h : dIn D t v = true) : dIn (dStore D t x v) t v = true := by
  obtain ⟨l, hl, h2, h3, h0, h1⟩ := dIn_at h
  unfold dStore
  rw [if_pos h]
  unfold dIn
  rw [atD_set hl, if_pos rfl]
  refine decide_eq_true ⟨h2, h3, h0, ?_⟩
  rw [put_len]
  · unfold dBytes; rw [hl]; exact h1
  · rw [pack_len]; unfold dBytes; rw [hl]; show v.o.toNat + wd t ≤ l.length; omega
theorem store_out {D : Dm} {t : Int} {x v : Vl} (h : dIn D t v = false) : dStore D t x v = D := by unfold dStore; rw [h]; rfl
theorem store_load {D : Dm} {t : Int} {x v : Vl} (h : dIn D t v = true) : loadV (dStore D t x v) t v = back t x := by
  obtain ⟨l, hl, h2, h3, h0, h1⟩ := dIn_at h
  unfold loadV
  rw [if_pos (store_in h), ← unpack_pack]
  congr 1
  unfold dLoad
  rw [store_at h, if_pos rfl]
  have hdl : (dBytes D v.bk).length = l.length := by unfold dBytes; rw [hl]
  refine List.ext_getElem? fun m => ?_
  rw [List.getElem?_take]
  by_cases hm : m < wd t
  · rw [if_pos hm, List.getElem?_drop, put_get _ _ _ (by rw [pack_len, hdl]; omega), if_neg (by omega), if_pos (by rw [pack_len]; omega)]
    congr 1
    omega
  · rw [if_neg hm, List.getElem?_eq_none (by rw [pack_len]; omega)]
/-- A byte that the store does not hit stays. -/
theorem store_stays {D : Dm} {t : Int} {x v : Vl} (h : dIn D t v = true) (j : Int) (i : Nat) (hn : ¬ (j = v.bk ∧ v.o ≤ i ∧ (i : Int) < v.o + wd t)) : (dBytes (dStore D t x v) j)[i]? = (dBytes D j)[i]? := by
  obtain ⟨l, hl, h2, h3, h0, h1⟩ := dIn_at h
  rw [store_at h]
  by_cases e : j = v.bk
  · rw [if_pos e, put_get _ _ _ (by rw [pack_len]; unfold dBytes; rw [hl]; show v.o.toNat + wd t ≤ l.length; omega), ← e]
    by_cases c1 : i < v.o.toNat
    · rw [if_pos c1]
    · rw [if_neg c1, if_neg (by rw [pack_len]; intro hh; exact hn ⟨e, by omega, by omega⟩)]
  · rw [if_neg e]
end Go.Proofs.Ytkbkgbkoplcgeaa
