/- Package mem: what a memory shows: the document's words as plain lists. -/
import Derived.Test.YtkbkgbkoplcgeaaMO
import Derived.Test.YtkbkgbkoplcgeaaMM
namespace Go.Proofs.Ytkbkgbkoplcgeaa
open Go.RowKit Go.Maps
set_option linter.unusedVariables false
set_option linter.unusedSimpArgs false

/-- A memory: of each block that ever was, its bytes, or nothing. -/
abbrev Dm := List (Option (List By))
def atD (D : Dm) (k : Int) : Option (List By) := if 0 ≤ k then D.getD k.toNat none else none
def dSize (D : Dm) (k : Int) : Int := match atD D k with | none => -1 | some l => l.length
def dBytes (D : Dm) (k : Int) : List By := match atD D k with | none => [] | some l => l
def dNew (D : Dm) (n : Int) (y : By) : Dm := D ++ [some (List.replicate (bnd n) y)]
def lostTo (k : Int) (y : By) : By := if y.k = 2 ∧ y.bk = k then q0 else y
def dFree (D : Dm) (k : Int) : Dm := match atD D k with | none => D | some _ => (D.set k.toNat none).map (Option.map (List.map (lostTo k)))
def dIn (D : Dm) (t : Int) (v : Vl) : Bool := match atD D v.bk with | none => false | some l => decide (v.k = 2 ∧ wd t ≠ 0 ∧ 0 ≤ v.o ∧ v.o + wd t ≤ l.length)
def dLoad (D : Dm) (t : Int) (v : Vl) : List By := ((dBytes D v.bk).drop v.o.toNat).take (wd t)
def dStore (D : Dm) (t : Int) (x v : Vl) : Dm := if dIn D t v = true then D.set v.bk.toNat (some (put (dBytes D v.bk) v.o.toNat (pack t x))) else D
def dSetOk (D : Dm) (k a : Int) : Bool := decide (0 ≤ a) && decide (a < dSize D k)
def dSet (D : Dm) (k a : Int) (b : Int) : Dm := if dSetOk D k a = true then D.set k.toNat (some (put (dBytes D k) a.toNat [nB b])) else D
def view (st : Ms) : Dm := st.map fun x => x.map fun b => seenL st b 0 b.size
theorem view_len (st : Ms) : (view st).length = st.length := by unfold view; simp
theorem atD_view (st : Ms) (k : Int) : atD (view st) k = (atS st k).map fun b => seenL st b 0 b.size := by
  unfold atD atS
  split
  · rw [List.getD_eq_getElem?_getD, List.getD_eq_getElem?_getD]
    unfold view
    rw [List.getElem?_map]
    cases st[k.toNat]? with
    | none => rfl
    | some x => rfl
  · rfl
theorem dSize_view (st : Ms) (k : Int) : dSize (view st) k = sizeS st k := by
  unfold dSize sizeS
  rw [atD_view]
  cases atS st k with
  | none => rfl
  | some b => show ((seenL st b 0 b.size).length : Int) = _; rw [seenL_len]
theorem dBytes_view (st : Ms) (k : Int) : dBytes (view st) k = bytesS st k := by
  unfold dBytes bytesS
  rw [atD_view]
  cases atS st k <;> rfl
theorem gone_snoc' {st : Ms} (b : Bk) (k : Int) : gone (st ++ [some b]) k = gone st k := by
  cases h : gone st k with
  | true => exact gone_snoc _ h
  | false =>
    by_cases hi : 0 ≤ k ∧ k < (st ++ [some b]).length
    · rw [gone_in hi, atS_snoc]
      by_cases e : k = st.length
      · rw [if_pos e]; rfl
      · rw [if_neg e]
        rw [List.length_append] at hi
        simp only [List.length_singleton] at hi
        rw [gone_in ⟨hi.1, by omega⟩] at h
        exact h
    · exact gone_out hi
theorem lostB_eq {st st' : Ms} (h : ∀ k, gone st' k = gone st k) (x : Cl) : lostB st' x = lostB st x := by unfold lostB; rw [h]
theorem seenAt_eq {st st' : Ms} (h : ∀ k, gone st' k = gone st k) (b : Bk) (j : Nat) : seenAt st' b j = seenAt st b j := by
  unfold seenAt
  cases b.cs[j]? with
  | none => rfl
  | some x => show (if lostB st' x then q0 else x.y) = (if lostB st x then q0 else x.y); rw [lostB_eq h]
theorem seenL_eq {st st' : Ms} (h : ∀ k, gone st' k = gone st k) (b : Bk) (f n : Nat) : seenL st' b f n = seenL st b f n := List.map_congr_left fun i _ => seenAt_eq h b (f + i)
theorem view_new (st : Ms) (b : Bk) (n : Int) (hs : b.size = bnd n) (hc : b.cs = []) : view (st ++ [some b]) = dNew (view st) n b.all := by
  unfold dNew view
  rw [List.map_append]
  congr 1
  · refine List.map_congr_left fun x _ => ?_
    cases x with
    | none => rfl
    | some c => exact congrArg some (seenL_eq (fun k => gone_snoc' b k) c 0 c.size)
  · show [some (seenL (st ++ [some b]) b 0 b.size)] = _
    congr 2
    rw [hs]
    refine List.eq_replicate_iff.2 ⟨seenL_len _ _ _ _, fun y hy => ?_⟩
    unfold seenL at hy
    obtain ⟨j, _, rfl⟩ := List.mem_map.1 hy
    unfold seenAt
    rw [hc]
    rfl
theorem view_lay {st : Ms} {i : Nat} {b b' : Bk} {ys : List By} {a : Nat} (hi : st[i]? = some (some b)) (hs : b'.size = b.size) (hal : b'.all = b.all) (h2 : b.all.k ≠ 2) (hle : a + ys.length ≤ b.size)
    (hc : b'.cs = put (b.cs ++ List.replicate (a + ys.length - b.cs.length) ⟨b.all, false⟩) a (ys.map (layC st))) :
    view (st.set i (some b')) = (view st).set i (some (put (seenL st b 0 b.size) a ys)) := by
  have hg : ∀ k, gone (st.set i (some b')) k = gone st k := fun k => gone_set hi k
  unfold view
  refine List.ext_getElem? fun j => ?_
  rw [List.getElem?_map, List.getElem?_set, List.getElem?_set, List.getElem?_map, List.length_map]
  by_cases e : i = j
  · subst e
    rw [if_pos rfl, if_pos rfl]
    have hl := (List.getElem?_eq_some_iff.1 hi).1
    rw [if_pos hl, if_pos hl]
    show some (some (seenL (st.set i (some b')) b' 0 b'.size)) = some (some _)
    congr 2
    rw [hs, seenL_eq hg]
    refine List.ext_getElem? fun m => ?_
    have hput : (put (seenL st b 0 b.size) a ys).length = b.size := by rw [put_len _ _ _ (by rw [seenL_len]; exact hle), seenL_len]
    by_cases hm : m < b.size
    · have e1 : (seenL st b' 0 b.size)[m]? = some (seenAt st b' m) := by
        unfold seenL
        rw [List.getElem?_map, List.getElem?_range hm]
        show some (seenAt st b' (0 + m)) = _
        rw [Nat.zero_add]
      rw [e1]
      have e2 : (seenL st b 0 b.size)[m]? = some (seenAt st b m) := by
        unfold seenL
        rw [List.getElem?_map, List.getElem?_range hm]
        show some (seenAt st b (0 + m)) = _
        rw [Nat.zero_add]
      have hpad : ∀ (m : Nat), (b.cs ++ List.replicate (a + ys.length - b.cs.length) (⟨b.all, false⟩ : Cl))[m]? = b.cs[m]? ∨ ((b.cs ++ List.replicate (a + ys.length - b.cs.length) (⟨b.all, false⟩ : Cl))[m]? = some ⟨b.all, false⟩ ∧ b.cs[m]? = none) := fun m => by
        by_cases h : m < b.cs.length
        · exact .inl (List.getElem?_append_left h)
        · rw [List.getElem?_append_right (by omega)]
          by_cases h3 : m - b.cs.length < a + ys.length - b.cs.length
          · exact .inr ⟨by rw [List.getElem?_replicate, if_pos h3], List.getElem?_eq_none (by omega)⟩
          · exact .inl (by rw [List.getElem?_replicate, if_neg h3, List.getElem?_eq_none (by omega)])
      have hsame : ∀ x : Option Cl, (x = b.cs[m]? ∨ (x = some ⟨b.all, false⟩ ∧ b.cs[m]? = none)) → seenO st b.all x = seenAt st b m := fun x hx => by
        unfold seenAt
        rcases hx with rfl | ⟨rfl, h⟩
        · rfl
        · rw [h]
          have : lostB st ⟨b.all, false⟩ = false := by unfold lostB; simp [h2]
          show (if lostB st ⟨b.all, false⟩ then q0 else b.all) = b.all
          rw [this]; rfl
      have hlen : a + ys.length ≤ (b.cs ++ List.replicate (a + ys.length - b.cs.length) (⟨b.all, false⟩ : Cl)).length := by rw [List.length_append, List.length_replicate]; omega
      have hu : seenAt st b' m = seenO st b.all b'.cs[m]? := by unfold seenAt; rw [hal]
      rw [hu, hc, put_get _ _ _ (by rw [List.length_map]; exact hlen), put_get _ _ _ (by rw [seenL_len]; exact hle), e2, List.length_map]
      by_cases c1 : m < a
      · rw [if_pos c1, if_pos c1, hsame _ (hpad m)]
      · rw [if_neg c1, if_neg c1]
        by_cases c2 : m < a + ys.length
        · rw [if_pos c2, if_pos c2, List.getElem?_map, List.getElem?_eq_getElem (show m - a < ys.length by omega)]
          show some (if lostB st (layC st ys[m - a]) then q0 else (layC st ys[m - a]).y) = some ys[m - a]
          have : lostB st (layC st ys[m - a]) = false := by
            unfold lostB layC
            simp only
            cases h1 : (ys[m - a].k == 2) <;> cases h3 : gone st ys[m - a].bk <;> simp
          rw [this]; rfl
        · rw [if_neg c2, if_neg c2, hsame _ (hpad m)]
    · rw [List.getElem?_eq_none (by rw [seenL_len]; omega), List.getElem?_eq_none (by rw [hput]; omega)]
  · rw [if_neg e, if_neg e]
    cases st[j]? with
    | none => rfl
    | some x =>
      cases x with
      | none => rfl
      | some c => exact congrArg (fun z => some (some z)) (seenL_eq hg c 0 c.size)
end Go.Proofs.Ytkbkgbkoplcgeaa
