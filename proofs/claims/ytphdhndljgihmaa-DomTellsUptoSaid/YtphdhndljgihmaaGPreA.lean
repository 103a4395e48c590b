/- Package graph: lists of lists of one's own; Preds. -/
import Derived.Test.YtphdhndljgihmaaGOrdC
namespace Go.Proofs.Ytphdhndljgihmaa
open Go.RowKit Go.Maps
set_option linter.unusedVariables false
set_option linter.unusedSimpArgs false

def predUpto (S : Nat → List Nat) (b t : Nat) : List Nat := (List.range b).filter (fun x => decide (t ∈ S x))
theorem predUpto_succ (S : Nat → List Nat) (b t : Nat) : predUpto S (b + 1) t = predUpto S b t ++ if t ∈ S b then [b] else [] := by
  unfold predUpto
  rw [List.range_succ, List.filter_append]
  congr 1
  by_cases h : t ∈ S b <;> simp [h]
def predPart (S : Nat → List Nat) (b i t : Nat) : List Nat := predUpto S b t ++ if t ∈ (S b).take i then [b] else []
theorem predPart_0 (S : Nat → List Nat) (b t : Nat) : predPart S b 0 t = predUpto S b t := by simp [predPart]
theorem predPart_end (S : Nat → List Nat) (b t : Nat) : predPart S b (S b).length t = predUpto S (b + 1) t := by rw [predUpto_succ, predPart, List.take_length]
theorem predPart_step (S : Nat → List Nat) (b i j : Nat) (hn : (S b).Nodup) (hi : i < (S b).length) : predPart S b (i + 1) j = if j = (S b)[i] then predPart S b i j ++ [b] else predPart S b i j := by
  unfold predPart
  have hm : ∀ j, j ∈ (S b).take (i + 1) ↔ j ∈ (S b).take i ∨ j = (S b)[i] := fun j => by rw [List.take_succ_eq_append_getElem hi, List.mem_append, List.mem_singleton]
  have hx : (S b)[i] ∉ (S b).take i := by
    intro h
    obtain ⟨k, hk, e⟩ := List.mem_iff_getElem.1 h
    rw [List.getElem_take] at e
    have hk' : k < i := by rw [List.length_take] at hk; omega
    have := (List.getElem_inj hn).1 e
    omega
  simp only [hm]
  by_cases h : j = (S b)[i]
  · subst h
    simp only [hx, false_or, if_pos, if_false, List.append_nil]
  · rw [if_neg h]
    simp only [h, or_false]
theorem predUpto_le (S : Nat → List Nat) (b t : Nat) : (predUpto S b t).length ≤ b := by
  have := List.length_filter_le (fun x => decide (t ∈ S x)) (List.range b)
  rw [List.length_range] at this
  exact this
theorem predPart_le (S : Nat → List Nat) (b i t : Nat) : (predPart S b i t).length ≤ b + 1 := by
  unfold predPart
  rw [List.length_append]
  have := predUpto_le S b t
  split <;> simp <;> omega

/-- A list of lists of one's own: its row, and behind it the lists. -/
structure LL (R n : Nat) (vs : Nat → Value) (M : Nat → List Int) (w : World) : Prop where
  row : w.rowIs R 22 n vs
  own : ∀ i, i < n → w.ownsRow (R + 1) 3 1 (vs i) (M i).length ((M i).flatMap intC)
  ap : ∀ i j, i < n → j < n → i ≠ j → ∀ x, (vs i).ownBlock = some x → (vs j).ownBlock ≠ some x
section
variable {R n : Nat} {vs : Nat → Value} {M : Nat → List Int} {w w' : World}
theorem LL.stay {hi : Nat} (h : LL R n vs M w) (hh : w.heap.size ≤ hi) (hs : Stay R hi w w') : LL R n vs M w' :=
  ⟨h.row.of_block (hs R (Nat.le_refl _) (Nat.lt_of_lt_of_le h.row.lt hh)), fun i hi' => ownsRow_stay (h.own i hi') (fun g e => Nat.lt_of_lt_of_le ((h.own i hi').lt g e).2 hh) (hs.mono (Nat.le_succ _) (Nat.le_refl _)), h.ap⟩
theorem LL.later (h : LL R n vs M w) (hb : Below w.heap.size w w') : LL R n vs M w' := h.stay (Nat.le_refl _) (below_stay hb (Nat.le_refl _))
theorem LL.alloc (h : LL R n vs M w) (o : Obj) : LL R n vs M (w.alloc o) := h.later ((Below.refl _ _).alloc (Nat.le_refl _) o)
theorem LL.congr {M' : Nat → List Int} (h : LL R n vs M w) (e : ∀ i, i < n → M i = M' i) : LL R n vs M' w :=
  ⟨h.row, fun i hi => by rw [← e i hi]; exact h.own i hi, h.ap⟩
theorem LL.snoc (h : LL R n vs M w) {t : Nat} (ht : t < n) {x : Int} {v' : Value} (hr : w'.ownsRow (R + 1) 3 1 v' ((M t).length + 1) ((M t).flatMap intC ++ [.int .i64 x])) (hg : w.grownBy w' (vs t).ownBlock) (hm : Moved w (vs t) v') :
    LL R n (fun j => if j = t then v' else vs j) (fun j => if j = t then M t ++ [x] else M j) (w'.setCell ⟨R, t, none⟩ v') := by
  have hlt := fun i hi => (h.own i hi).lt
  have hR := h.row.lt
  refine ⟨?_, fun i hi => ?_, fun i j hi hj hne g => ?_⟩
  · exact (rowIs_kept h.row hg (fun e => by have := hlt t ht _ e.symm; omega)).set t v'
  · refine ownsRow_setCell_below ?_ (by dsimp only; omega) _
    by_cases e : i = t
    · subst e
      simp only [if_pos]
      rw [List.length_append, List.flatMap_append]
      exact hr
    · simp only [if_neg e]
      refine (h.own i hi).kept hg ?_
      by_cases e1 : (vs i).ownBlock = none
      · exact .inl e1
      · refine .inr (fun e2 => ?_)
        cases hx : (vs i).ownBlock with
        | none => exact e1 hx
        | some x => exact h.ap i t hi ht e x hx (e2.symm.trans hx)
  · have key : ∀ k, k < n → k ≠ t → ∀ g, v'.ownBlock = some g → (vs k).ownBlock ≠ some g := fun k hk hkt g e1 e2 => by
      rcases hm with e | e
      · rw [e] at e1
        exact h.ap t k ht hk (fun e => hkt e.symm) g e1 e2
      · rw [e] at e1; injection e1 with e1
        have := (hlt k hk g e2).2
        omega
    by_cases ei : i = t
    · subst ei
      have ej : ¬ j = i := fun e => hne e.symm
      simp only [if_pos, if_neg ej]
      exact key j hj ej g
    · simp only [if_neg ei]
      by_cases ej : j = t
      · subst ej
        simp only [if_pos]
        exact fun e1 e2 => key i hi ei g e2 e1
      · simp only [if_neg ej]
        exact h.ap i j hi hj hne g
theorem LL.new (w : World) (n : Nat) : LL w.heap.size n (fun _ => .slice none 0 0) (fun _ => []) (w.alloc (.cells (madeCells #[.slice none 0 0] n) 22)) :=
  ⟨World.rowIs_made w (.slice none 0 0) n _, fun i hi => World.ownsRow_nil _ _ _ _, fun i j _ _ _ x e => by simp [Value.ownBlock] at e⟩
theorem LL.slice (h : LL R n vs M w) {t : Nat} (ht : t < n) : ∃ p c, vs t = .slice p (M t).length c := row_slice (h.own t ht)
end
theorem ints_in {w : World} {a b n c : Nat} {p : Option Addr} {xs : List Int} (h : ListOwn 3 1 intC NoOwn a b w p n c xs) (hb : b ≤ w.heap.size) : ListIn intC NoMem w.heap.size w p n c xs :=
  ListOwn.lies (m := 1) (cel := intC) (Q := NoOwn) (E := NoMem) (Nat.succ_pos 0) (fun _ => rfl) (fun _ _ _ _ _ _ => trivial) h hb
theorem infoInts : (Try.prog.info? 22).map (fun i => (i.zero, i.size, i.bytes)) = some (some (.slice none 0 0), 1, 24) := by kernel_rfl
/-- What Preds answers. -/
def OwnLL (n : Nat) (M : Nat → List Int) (W : World) (e : Ending) (w' : World) : Prop :=
  ∃ R vs, e = .returned (.slice (some ⟨R, 0, none⟩) n n) ∧ Past W.heap.size W w' ∧ W.heap.size ≤ R ∧ LL R n vs M w'
/-- What stands while Preds goes on. -/
structure PreI (W : World) (cs : List Value) (R n : Nat) (vs : Nat → Value) (M : Nat → List Int) (w : World) : Prop where
  past : Past W.heap.size W w
  box : Box W.heap.size cs w
  lt : W.heap.size < R
  ll : LL R n vs M w
section
variable {W w w' : World} {cs : List Value} {R n : Nat} {vs : Nat → Value} {M : Nat → List Int}
theorem PreI.later (h : PreI W cs R n vs M w) (hb : Below w.heap.size w w') : PreI W cs R n vs M w' :=
  ⟨h.past.trans ⟨h.past.size, hb.mono h.past.size⟩, h.box.later hb, h.lt, h.ll.later hb⟩
theorem PreI.alloc (h : PreI W cs R n vs M w) (o : Obj) : PreI W cs R n vs M (w.alloc o) := h.later ((Below.refl _ _).alloc (Nat.le_refl _) o)
theorem PreI.congr {M' : Nat → List Int} (h : PreI W cs R n vs M w) (e : ∀ i, i < n → M i = M' i) : PreI W cs R n vs M' w := ⟨h.past, h.box, h.lt, h.ll.congr e⟩
theorem PreI.snoc (h : PreI W cs R n vs M w) {t : Nat} (ht : t < n) {x : Int} {v' : Value} (hr : w'.ownsRow (R + 1) 3 1 v' ((M t).length + 1) ((M t).flatMap intC ++ [.int .i64 x])) (hg : w.grownBy w' (vs t).ownBlock) (hm : Moved w (vs t) v') :
    PreI W cs R n (fun j => if j = t then v' else vs j) (fun j => if j = t then M t ++ [x] else M j) (w'.setCell ⟨R, t, none⟩ v') := by
  have hl := h.lt
  have hlt := (h.ll.own t ht).lt
  exact ⟨(h.past.grownRow hg (fun j e => by have := hlt j e; omega)).set (a := ⟨R, t, none⟩) (by dsimp only; omega) _, (h.box.kept hg (fun e => by have := hlt _ e.symm; omega)).other (by omega) _ _, h.lt, h.ll.snoc ht hr hg hm⟩
end
/-- What a round that grows one list does to blocks elsewhere. -/
theorem snoc_stay {w w' : World} {R t lo hi : Nat} {v v' : Value} (hg : w.grownBy w' v.ownBlock) (hh : hi ≤ w.heap.size) (hR : R < lo) (hv : ∀ g, v.ownBlock = some g → g < lo ∨ hi ≤ g) : Stay lo hi w (w'.setCell ⟨R, t, none⟩ v') := fun k h1 h2 => by
  rw [Below.heap_setCell _ _ _ _ (by dsimp only; omega)]
  exact hg.block k (by omega) (fun e => by have := hv k e.symm; omega)
end Go.Proofs.Ytphdhndljgihmaa
