/- The document's answer for uses: rounds, as plain data. -/
import Derived.Test.YtdfdgpobohpphaaRuA
namespace Go.Proofs.Ytdfdgpobohpphaa
open Go.RowKit Go.Maps
set_option linter.unusedVariables false
set_option linter.unusedSimpArgs false

structure FI (C : List Nf) (bs : List Bool) : Prop where
  len : bs.length = C.length
  sound : ∀ j, bs.getD j false = true → Need C j
  busy : ∀ j x, C[j]? = some x → x.idle = false → bs.getD j false = true
def clo (C : List Nf) (bs : List Bool) (i k : Nat) : Prop := ∀ x y, C[i]? = some x → C[k]? = some y → x.res = true → bs.getD k false = true → y.use x.reg = true → bs.getD i false = true
def cntF (bs : List Bool) : Nat := (bs.filter fun b => !b).length
theorem cntF_set : ∀ (bs : List Bool) (i : Nat), bs[i]? = some false → cntF (bs.set i true) + 1 = cntF bs
  | [], i, h => by simp at h
  | b :: bs, 0, h => by
    simp only [List.getElem?_cons_zero, Option.some.injEq] at h
    subst h
    simp [cntF]
  | b :: bs, i + 1, h => by
    have ih := cntF_set bs i (by simpa using h)
    unfold cntF at ih ⊢
    cases b
    · simp only [List.set_cons_succ, List.filter_cons, Bool.not_false, ↓reduceIte, List.length_cons]; omega
    · simp only [List.set_cons_succ, List.filter_cons, Bool.not_true, Bool.false_eq_true, ↓reduceIte]; exact ih
theorem getD_set (bs : List Bool) (i j : Nat) (v : Bool) (hi : i < bs.length) : (bs.set i v).getD j false = if j = i then v else bs.getD j false := by
  rw [List.getD_eq_getElem?_getD, List.getD_eq_getElem?_getD, List.getElem?_set]
  by_cases e : i = j
  · subst e; rw [if_pos rfl, if_pos hi, if_pos rfl]; rfl
  · rw [if_neg e, if_neg (Ne.symm e)]
/-- While a round goes on. -/
structure PI (C : List Nf) (bs0 : List Bool) (i k : Nat) (more : Bool) (bs : List Bool) : Prop where
  fi : FI C bs
  less : more = true → cntF bs < cntF bs0
  same : more = false → bs = bs0 ∧ ∀ i' k', (i' < i ∧ k' < C.length) ∨ (i' = i ∧ k' < k) → clo C bs i' k'
theorem PI.start {C : List Nf} {bs : List Bool} (h : FI C bs) : PI C bs 0 0 false bs := ⟨h, fun h => by (cases h), fun _ => ⟨rfl, fun i' k' h => by omega⟩⟩
theorem PI.le {C : List Nf} {bs0 bs : List Bool} {i k : Nat} {more : Bool} (h : PI C bs0 i k more bs) : cntF bs ≤ cntF bs0 := by
  cases more with
  | true => exact Nat.le_of_lt (h.less rfl)
  | false => rw [(h.same rfl).1]; exact Nat.le_refl _
/-- A place that needs no look. -/
theorem PI.skip {C : List Nf} {bs0 bs : List Bool} {i : Nat} {more : Bool} (h : PI C bs0 i 0 more bs) (hs : bs.getD i false = true ∨ ∀ x, C[i]? = some x → x.res = false) : PI C bs0 (i + 1) 0 more bs := by
  refine ⟨h.fi, h.less, fun hm => ⟨(h.same hm).1, fun i' k' hk => ?_⟩⟩
  by_cases e : i' = i
  · subst e
    intro x y hx hy hr hb hu
    rcases hs with hs | hs
    · exact hs
    · rw [hs x hx] at hr; cases hr
  · exact (h.same hm).2 i' k' (.inl ⟨by omega, by omega⟩)
theorem PI.next {C : List Nf} {bs0 bs : List Bool} {i : Nat} {more : Bool} (h : PI C bs0 i C.length more bs) : PI C bs0 (i + 1) 0 more bs := by
  refine ⟨h.fi, h.less, fun hm => ⟨(h.same hm).1, fun i' k' hk => (h.same hm).2 i' k' (by omega)⟩⟩
/-- Nothing to be done at a pair. -/
theorem PI.pass {C : List Nf} {bs0 bs : List Bool} {i k : Nat} {more : Bool} (h : PI C bs0 i k more bs) (hs : bs.getD k false = false ∨ ∀ x y, C[i]? = some x → C[k]? = some y → y.use x.reg = false) : PI C bs0 i (k + 1) more bs := by
  refine ⟨h.fi, h.less, fun hm => ⟨(h.same hm).1, fun i' k' hk => ?_⟩⟩
  by_cases e : i' = i ∧ k' = k
  · obtain ⟨rfl, rfl⟩ := e
    intro x y hx hy hr hb hu
    rcases hs with hs | hs
    · rw [hs] at hb; cases hb
    · rw [hs x y hx hy] at hu; cases hu
  · exact (h.same hm).2 i' k' (by omega)
/-- One more is needed. -/
theorem PI.mark {C : List Nf} {bs0 bs : List Bool} {i k : Nat} {more : Bool} (h : PI C bs0 i k more bs) {x y : Nf} (hx : C[i]? = some x) (hy : C[k]? = some y) (hr : x.res = true) (hb : bs.getD k false = true) (hu : y.use x.reg = true) (hbm : bs.getD i false = true → more = true) : PI C bs0 i (k + 1) true (bs.set i true) := by
  have hil : i < bs.length := by rw [h.fi.len]; exact (List.getElem?_eq_some_iff.1 hx).1
  refine ⟨⟨by rw [List.length_set]; exact h.fi.len, fun j hj => ?_, fun j z hz hid => ?_⟩, fun _ => ?_, fun h => by (cases h)⟩
  · rw [getD_set bs i j true hil] at hj
    by_cases e : j = i
    · subst e; exact .used _ _ x y hx hr (h.fi.sound k hb) hy hu
    · rw [if_neg e] at hj; exact h.fi.sound j hj
  · rw [getD_set bs i j true hil]
    split
    · rfl
    · exact h.fi.busy j z hz hid
  · have h1 := h.le
    cases e : bs[i] with
    | false =>
      have := cntF_set bs i (by rw [List.getElem?_eq_getElem hil, e])
      omega
    | true =>
      have e2 : bs.getD i false = true := by rw [List.getD_eq_getElem?_getD, List.getElem?_eq_getElem hil, e]; rfl
      have e3 : bs.set i true = bs := by
        apply List.ext_getElem?
        intro j
        rw [List.getElem?_set]
        by_cases e4 : i = j
        · subst e4; rw [if_pos rfl, if_pos hil, List.getElem?_eq_getElem hil, e]
        · rw [if_neg e4]
      rw [e3]
      exact h.less (hbm e2)
theorem PI.ends {C : List Nf} {bs0 bs : List Bool} (h : PI C bs0 C.length 0 false bs) : bs = (List.range C.length).map (ndF C) := by
  obtain ⟨_, hc⟩ := h.same rfl
  have key : ∀ {j}, Need C j → bs.getD j false = true := need_closed (fun j => bs.getD j false) h.fi.busy (fun k j x y hx hr hb hy hu => hc k j (.inl ⟨(List.getElem?_eq_some_iff.1 hx).1, (List.getElem?_eq_some_iff.1 hy).1⟩) x y hx hy hr hb hu)
  apply List.ext_getElem
  · rw [h.fi.len]; simp
  · intro j h1 h2
    rw [List.getElem_map, List.getElem_range]
    have e : bs.getD j false = bs[j] := by rw [List.getD_eq_getElem?_getD, List.getElem?_eq_getElem h1]; rfl
    rw [← e]
    by_cases c : Need C j
    · rw [ndF_iff.2 c]; exact key c
    · rw [ndF_not.2 c]
      cases e2 : bs.getD j false with
      | false => rfl
      | true => exact absurd (h.fi.sound j e2) c
/-- The first round's row. -/
def FB (C : List Nf) (i : Nat) (bs : List Bool) : Prop := bs.length = C.length ∧ ∀ j x, C[j]? = some x → bs.getD j false = if j < i then !x.idle else false
theorem FB.start (C : List Nf) : FB C 0 (List.replicate C.length false) := by
  refine ⟨List.length_replicate, fun j x hx => ?_⟩
  have := (List.getElem?_eq_some_iff.1 hx).1
  rw [if_neg (Nat.not_lt_zero _), List.getD_eq_getElem?_getD, List.getElem?_replicate, if_pos this]; rfl
theorem FB.step {C : List Nf} {i : Nat} {bs : List Bool} (h : FB C i bs) {x : Nf} (hx : C[i]? = some x) : FB C (i + 1) (bs.set i (!x.idle)) := by
  have hi : i < bs.length := by rw [h.1]; exact (List.getElem?_eq_some_iff.1 hx).1
  refine ⟨by rw [List.length_set]; exact h.1, fun j y hy => ?_⟩
  rw [getD_set bs i j _ hi]
  by_cases e : j = i
  · subst e
    rw [hx] at hy
    injection hy with hy
    subst hy
    rw [if_pos rfl, if_pos (by omega)]
  · rw [if_neg e, h.2 j y hy]
    by_cases e2 : j < i
    · rw [if_pos e2, if_pos (by omega)]
    · rw [if_neg e2, if_neg (by omega)]
theorem FB.ends {C : List Nf} {bs : List Bool} (h : FB C C.length bs) : FI C bs := by
  refine ⟨h.1, fun j hj => ?_, fun j x hx hid => ?_⟩
  · have hl : j < C.length := by
      rw [← h.1]
      by_cases c : j < bs.length
      · exact c
      · rw [List.getD_eq_getElem?_getD, List.getElem?_eq_none (by omega)] at hj; cases hj
    have e := h.2 j C[j] (List.getElem?_eq_getElem hl)
    rw [if_pos hl, hj] at e
    refine .busy j C[j] (List.getElem?_eq_getElem hl) ?_
    cases c : C[j].idle with
    | false => rfl
    | true => rw [c] at e; cases e
  · have hl := (List.getElem?_eq_some_iff.1 hx).1
    rw [h.2 j x hx, if_pos hl, hid]; rfl
theorem insC_len (d : Ins) : (insC d).length = 7 := rfl
theorem ins_cells {B : Nat} {w : World} {p : Option Addr} {n c : Nat} {L : List Ins} (h : rowP B 46 7 insC p n c L w) (j : Nat) (hj : j < L.length) : ∃ g, p = some ⟨g, 0, none⟩ ∧ g < w.heap.size ∧ w.cell? ⟨g, j * 7, none⟩ = some (.int .i64 L[j].op) ∧ w.cell? ⟨g, j * 7 + 1, none⟩ = some (.int .i64 L[j].reg) ∧ w.cell? ⟨g, j * 7 + 2, none⟩ = some (.int .i64 L[j].ty) ∧ w.cell? ⟨g, j * 7 + 3, none⟩ = some (.int .i64 L[j].n) ∧ w.cell? ⟨g, j * 7 + 4, none⟩ = some (.int .i64 L[j].fl) ∧ w.cell? ⟨g, j * 7 + 5, none⟩ = some (.slice L[j].ap L[j].al L[j].ac) ∧ w.cell? ⟨g, j * 7 + 6, none⟩ = some (.slice L[j].tp L[j].tl L[j].tc) := by
  obtain ⟨g, e, _, hl, _, _, hc⟩ := row_cell h insC_len j hj
  exact ⟨g, e, hl, hc 0 (by decide), hc 1 (by decide), hc 2 (by decide), hc 3 (by decide), hc 4 (by decide), hc 5 (by decide), hc 6 (by decide)⟩
theorem flat_args {B : Nat} {w : World} {f : LFn} (h : FnIn B w f) : ∀ d ∈ (located f.bs).flatten, ListIn argC NoMem B w d.ap d.al d.ac d.args := by
  intro d hd
  obtain ⟨c, hc, hd⟩ := List.mem_flatten.1 hd
  obtain ⟨c', hc', rfl⟩ := List.mem_map.1 hc
  obtain ⟨x, hx, rfl⟩ := List.mem_map.1 hd
  exact ((h.2.2.2.2.2 c' hc').2.2.2.2 x hx).1
end Go.Proofs.Ytdfdgpobohpphaa
