/- Package mem: one block of a memory is set; copy into a part of an own row. -/
import Derived.Test.YtkbkgbkoplcgeaaMN
namespace Go.Proofs.Ytkbkgbkoplcgeaa
open Go.RowKit Go.Maps
set_option linter.unusedVariables false
set_option linter.unusedSimpArgs false

theorem atS_set {st : Ms} {i : Nat} {b b' : Bk} (hi : st[i]? = some (some b)) (j : Int) : atS (st.set i (some b')) j = if j = i then some b' else atS st j := by
  have hl := (List.getElem?_eq_some_iff.1 hi).1
  unfold atS
  by_cases h1 : 0 ≤ j
  · rw [if_pos h1, if_pos h1, List.getD_eq_getElem?_getD, List.getD_eq_getElem?_getD, List.getElem?_set]
    by_cases e : j = i
    · subst e
      rw [if_pos (by simp), if_pos rfl]
      rw [if_pos hl]; rfl
    · rw [if_neg (by omega), if_neg e]
  · rw [if_neg h1, if_neg (by omega), if_neg h1]
theorem gone_set {st : Ms} {i : Nat} {b b' : Bk} (hi : st[i]? = some (some b)) (j : Int) : gone (st.set i (some b')) j = gone st j := by
  unfold gone
  rw [atS_set hi, List.length_set]
  by_cases e : j = i
  · subst e
    rw [if_pos rfl]
    have : atS st (i : Int) = some b := by rw [atS_nat, List.getD_eq_getElem?_getD, hi]; rfl
    rw [this]
    rfl
  · rw [if_neg e]
theorem MapIs.set {ab : Nat} {st : Ms} {w : World} (h : MapIs ab st w) {i : Nat} {b b' : Bk} (hi : st[i]? = some (some b)) (hp : b'.pb = b.pb) : MapIs ab (st.set i (some b')) w := by
  obtain ⟨D, hD, ha⟩ := h
  refine ⟨D, by rw [List.length_set]; exact hD, fun k hk => ?_⟩
  rw [atS_set hi, ha k hk]
  by_cases e : k = i
  · subst e
    rw [if_pos rfl]
    have : atS st (i : Int) = some b := by rw [atS_nat, List.getD_eq_getElem?_getD, hi]; rfl
    rw [this]
    show DataW.lit _ = DataW.lit _
    rw [hp]
  · rw [if_neg e]
def Bk.sl (b : Bk) : Value := .slice b.cp b.cs.length b.cc
theorem blkSet {o : Nat → Nat} {mb ab : Nat} {st : Ms} {w w' : World} (h : MemIs o mb ab st w) {i : Nat} {b : Bk} (hi : st[i]? = some (some b)) (b' : Bk) (hp : b'.pb = b.pb)
    (hfit : b'.size ≤ 4096 ∧ b'.cs.length ≤ b'.size ∧ b'.all.k ≠ 2 ∧ b'.all.ok ∧ ∀ x ∈ b'.cs, (x.y.ok ∧ wf64 x.y.bk) ∧ (x.late = true → x.y.k = 2 ∧ gone st x.y.bk = true))
    (os : w'.os = w.os) (tape : w'.tape = w.tape) (output : w'.output = w.output) (hs : w.heap.size ≤ w'.heap.size)
    (hk : ∀ k, k < w.heap.size → k ≠ b.pb → b.sl.ownBlock ≠ some k → w'.heap[k]? = w.heap[k]?)
    (hbx : Box b.pb (bkC b') w') (hrow : w'.ownsRow 0 102 6 b'.sl b'.cs.length (b'.cs.flatMap celC))
    (hmv : ∀ g, b'.sl.ownBlock = some g → b.sl.ownBlock = some g ∨ w.heap.size ≤ g) : Goes o mb ab (st.set i (some b')) w w' := by
  obtain ⟨t1, t2, t3, t4⟩ := h.blk i b hi
  have hold : ∀ k, k < w.heap.size → (if w.heap.size ≤ k ∧ b'.sl.ownBlock = some k then 2 * i + 4 else o k) = o k := fun k hk => if_neg (by omega)
  have hml : mb < w.heap.size := h.inside mb (by rw [h.mem]; decide)
  have hal : ab < w.heap.size := h.inside ab (by rw [h.map]; decide)
  have hpl : b.pb < w.heap.size := t2.1
  have hoth : ∀ k, k < w.heap.size → o k ≠ 2 * i + 3 → o k ≠ 2 * i + 4 → w'.heap[k]? = w.heap[k]? := fun k h0 h1 h2 => hk k h0 (fun e => h1 (by rw [e]; exact t1)) (fun e => h2 (t4 k e))
  refine ⟨fun k => if w.heap.size ≤ k ∧ b'.sl.ownBlock = some k then 2 * i + 4 else o k, ?_, ⟨os, tape, output, hs, fun k h0 h1 => hoth k h0 (by omega) (by omega)⟩, hold⟩
  constructor
  · intro k hk0
    by_cases e : w.heap.size ≤ k ∧ b'.sl.ownBlock = some k
    · exact (hrow.lt k e.2).2
    · simp only [if_neg e] at hk0
      exact Nat.lt_of_lt_of_le (h.inside k hk0) hs
  · exact (hold mb hml).trans h.mem
  · exact (hold ab hal).trans h.map
  · rw [List.length_set]; exact h.box.same hs (hoth mb hml (by rw [h.mem]; omega) (by rw [h.mem]; omega))
  · exact (h.maps.same (hoth ab hal (by rw [h.map]; omega) (by rw [h.map]; omega))).set hi hp
  · rw [List.length_set]; exact h.len
  · intro j c hj
    rw [List.getElem?_set] at hj
    split at hj
    · rename_i e
      subst e
      split at hj
      · injection hj with hj
        injection hj with hj
        subst hj
        refine ⟨(by rw [hp]; exact (hold _ hpl).trans t1), by rw [hp]; exact hbx, hrow, fun g hg => ?_⟩
        rcases hmv g hg with h1 | h1
        · exact (hold g (t3.lt g h1).2).trans (t4 g h1)
        · exact if_pos ⟨h1, hg⟩
      · cases hj
    · rename_i e
      obtain ⟨u1, u2, u3, u4⟩ := h.blk j c hj
      have hcl : c.pb < w.heap.size := u2.1
      refine ⟨(hold _ hcl).trans u1, u2.same hs (hoth _ hcl (by omega) (by omega)), row_same u3 (fun g hg => ?_), fun g hg => ?_⟩
      · have := u4 g hg
        exact hoth g (u3.lt g hg).2 (by omega) (by omega)
      · exact (hold _ (u3.lt g hg).2).trans (u4 g hg)
  · intro j c hj
    rw [List.getElem?_set] at hj
    split at hj
    · split at hj
      · injection hj with hj
        injection hj with hj
        subst hj
        exact ⟨hfit.1, hfit.2.1, hfit.2.2.1, hfit.2.2.2.1, fun x hx => ⟨(hfit.2.2.2.2 x hx).1, fun e => by rw [gone_set hi]; exact (hfit.2.2.2.2 x hx).2 e⟩⟩
      · cases hj
    · obtain ⟨u1, u2, u3, u4, u5⟩ := h.fit j c hj
      exact ⟨u1, u2, u3, u4, fun x hx => ⟨(u5 x hx).1, fun e => by rw [gone_set hi]; exact (u5 x hx).2 e⟩⟩
/-- A list with a part put over. -/
def put {α : Type} (L : List α) (p : Nat) (ys : List α) : List α := L.take p ++ ys ++ L.drop (p + ys.length)
theorem put_len {α : Type} (L : List α) (p : Nat) (ys : List α) (h : p + ys.length ≤ L.length) : (put L p ys).length = L.length := by
  unfold put; rw [List.length_append, List.length_append, List.length_take, List.length_drop]; omega
theorem put_get {α : Type} (L : List α) (p : Nat) (ys : List α) (h : p + ys.length ≤ L.length) (m : Nat) : (put L p ys)[m]? = if m < p then L[m]? else if m < p + ys.length then ys[m - p]? else L[m]? := by
  unfold put
  have hl : (L.take p).length = p := by rw [List.length_take]; omega
  by_cases c1 : m < p
  · rw [if_pos c1, List.append_assoc, List.getElem?_append_left (by rw [hl]; exact c1), List.getElem?_take, if_pos c1]
  · rw [if_neg c1]
    by_cases c2 : m < p + ys.length
    · rw [if_pos c2, List.append_assoc, List.getElem?_append_right (by rw [hl]; omega), hl, List.getElem?_append_left (by omega)]
    · rw [if_neg c2, List.getElem?_append_right (by rw [List.length_append, hl]; omega), List.length_append, hl, List.getElem?_drop]
      congr 1
      omega
theorem flat_take {α : Type} (f : α → List Value) (m : Nat) (hf : ∀ x, (f x).length = m) (L : List α) (p : Nat) (h : p ≤ L.length) : (L.take p).flatMap f = (L.flatMap f).take (p * m) := by
  have e : L.flatMap f = (L.take p).flatMap f ++ (L.drop p).flatMap f := by rw [← List.flatMap_append, List.take_append_drop]
  have hl : ((L.take p).flatMap f).length = p * m := by rw [flat_len f m hf, List.length_take, Nat.min_eq_left h]
  conv => rhs; rw [e, ← hl, List.take_left]
theorem flat_drop {α : Type} (f : α → List Value) (m : Nat) (hf : ∀ x, (f x).length = m) (L : List α) (p : Nat) (h : p ≤ L.length) : (L.drop p).flatMap f = (L.flatMap f).drop (p * m) := by
  have e : L.flatMap f = (L.take p).flatMap f ++ (L.drop p).flatMap f := by rw [← List.flatMap_append, List.take_append_drop]
  have hl : ((L.take p).flatMap f).length = p * m := by rw [flat_len f m hf, List.length_take, Nat.min_eq_left h]
  conv => rhs; rw [e, ← hl, List.drop_left]
theorem put_flat {α : Type} (f : α → List Value) (m : Nat) (hf : ∀ x, (f x).length = m) (L : List α) (p : Nat) (ys : List α) (h : p + ys.length ≤ L.length) : (put L p ys).flatMap f = put (L.flatMap f) (p * m) (ys.flatMap f) := by
  unfold put
  rw [List.flatMap_append, List.flatMap_append, flat_take f m hf L p (by omega), flat_drop f m hf L _ h, flat_len f m hf ys, Nat.add_mul]
theorem run_copy_at {P : Program} {w : World} (dT sT ty elem : TypeId) (m : Nat) (hu : P.underlying dT = some (.slice elem)) (hsz : (P.info? elem).map (·.size) = some m)
    (B g N cap p dLen dCap : Nat) (ad : Addr) (n sCap : Nat) (zs : List Value) (hown : w.ownsRow B elem m (.slice (some ⟨g, 0, none⟩) N cap) N zs) (cs : List Value) (hn : cs.length = n * m) (hd : n ≤ dLen) (hp : p + n ≤ N)
    (hsrc : ∀ j v, cs[j]? = some v → w.cell? (ad.add j) = some v) (h1 : ∀ v ∈ cs, v.oneCell' = true) :
    ∃ w', (Builtin.copy_ #[dT, sT] ty #[.slice (some ⟨g, p * m, none⟩) dLen dCap, .slice (some ad) n sCap]).run P w = .ok (goInt n) w' ∧ w'.ownsRow B elem m (.slice (some ⟨g, 0, none⟩) N cap) N (put zs (p * m) cs) ∧ w.grownBy w' (some g) := by
  obtain ⟨hz, h0 | ⟨g', cap', cur, e, hB, hg, hc1, hc2, hsize, htake⟩⟩ := hown
  · exact absurd h0.1 (by simp)
  · injection e with e1 e2 e3
    injection e1 with e1
    injection e1 with e1
    subst e1 e3
    have hpm : p * m + n * m ≤ N * m := by rw [← Nat.add_mul]; exact Nat.mul_le_mul_right _ hp
    have hNm : N * m ≤ cap * m := Nat.mul_le_mul_right _ hc1
    have hrun := run_copy_wide P w dT sT ty elem m g (p * m) dLen dCap ad n sCap cur elem n cs hu hsz hg (Nat.min_eq_left hd) hn hsrc (by rw [hn, hsize]; omega) h1
    have hcur : cur.toList = zs ++ cur.toList.drop (N * m) := by rw [← htake]; exact (List.take_append_drop _ _).symm
    have e0 : cur.toList.take (p * m) ++ (cs ++ cur.toList.drop (p * m + cs.length)) = put zs (p * m) cs ++ cur.toList.drop (N * m) := by
      unfold put
      conv => lhs; rw [hcur]
      rw [List.take_append_of_le_length (by omega), List.drop_append_of_le_length (by omega), List.append_assoc, List.append_assoc]
    have hpl : (put zs (p * m) cs).length = N * m := by rw [put_len _ _ _ (by omega), hz]
    refine ⟨_, hrun, ⟨hpl, .inr ⟨g, cap, _, rfl, hB, setRow_heap w g cur _ elem (0, 0) hg, hc1, hc2, ?_, ?_⟩⟩, ⟨rfl, rfl, rfl, by simp [World.setRow], fun k hk hne => setRow_other w g k _ (fun e => hne (by rw [e]))⟩⟩
    · rw [e0]
      simp only [List.size_toArray, List.length_append, hpl, List.length_drop, Array.length_toList]
      omega
    · rw [e0]
      show List.take (N * m) (put zs (p * m) cs ++ cur.toList.drop (N * m)) = _
      rw [← hpl, List.take_left]
end Go.Proofs.Ytkbkgbkoplcgeaa
