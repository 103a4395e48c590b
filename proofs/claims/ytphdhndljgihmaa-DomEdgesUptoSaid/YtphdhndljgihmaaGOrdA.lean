/- Package graph: what stands while Order goes on. -/
import Derived.Test.YtphdhndljgihmaaGSucB
import Derived.Deep.OwnRows
import Derived.WalkSmall
namespace Go.Proofs.Ytphdhndljgihmaa
open Go.RowKit Go.Maps
set_option linter.unusedVariables false
set_option linter.unusedSimpArgs false

/-- A visit: its block, and where the numbers that are left lie. -/
structure VS where
  b : Nat
  p : Option Addr
  c : Nat
  l : List Nat
def visC (v : VS) : List Value := [.int .i64 v.b, .slice v.p v.l.length v.c]
def Lst (lo : Nat) (g h : Option Nat) (w : World) (v : VS) : Prop :=
  v.l.length ≤ v.c ∧ v.c ≤ maxLen ∧ ∀ j (hj : j < v.l.length), ∃ a, v.p = some a ∧ lo ≤ a.block ∧ a.block < w.heap.size ∧ some a.block ≠ g ∧ some a.block ≠ h ∧ w.cell? (a.add j) = some (.int .i64 v.l[j])
theorem Lst.to {lo : Nat} {g h g' h' : Option Nat} {w w' : World} {v : VS} (k : Lst lo g h w v) (hs : w.heap.size ≤ w'.heap.size) (hc : ∀ x, lo ≤ x → x < w.heap.size → some x ≠ g → some x ≠ h → w'.heap[x]? = w.heap[x]?)
    (hg : ∀ x, g' = some x → g = some x ∨ w.heap.size ≤ x) (hh : ∀ x, h' = some x → h = some x ∨ w.heap.size ≤ x) : Lst lo g' h' w' v := by
  obtain ⟨k1, k2, k3⟩ := k
  refine ⟨k1, k2, fun j hj => ?_⟩
  obtain ⟨a, e, h1, h2, h3, h4, h5⟩ := k3 j hj
  refine ⟨a, e, h1, Nat.lt_of_lt_of_le h2 hs, fun e => ?_, fun e => ?_, ?_⟩
  · rcases hg _ e.symm with e | e
    · exact h3 e.symm
    · omega
  · rcases hh _ e.symm with e | e
    · exact h4 e.symm
    · omega
  · rw [World.cell?_of_block (w := w) (by rw [add_block]; exact hc _ h1 h2 h3 h4)]
    exact h5
structure OrdI (W : World) (cs : List Value) (n : Nat) (d : DS) (es : List VS) (vO vU : Value) (w : World) : Prop where
  past : Past W.heap.size W w
  box : Box W.heap.size cs w
  mrow : w.rowIs (W.heap.size + 1) 4 n (fun i => .bool (decide (i ∈ d.md)))
  mbox : Box (W.heap.size + 2) [.slice (some ⟨W.heap.size + 1, 0, none⟩) n n] w
  ubox : Box (W.heap.size + 3) [vU] w
  urow : w.ownsRow (W.heap.size + 4) 63 2 vU es.length (es.flatMap visC)
  ents : d.st = (es.map (fun v => (v.b, v.l))).reverse
  lst : ∀ v ∈ es, Lst (W.heap.size + 4) vU.ownBlock vO.ownBlock w v
  orow : w.ownsRow (W.heap.size + 4) 3 1 vO d.out.length ((ints d.out.reverse).flatMap intC)
  ap : ∀ x, vU.ownBlock = some x → vO.ownBlock ≠ some x
  big : W.heap.size + 4 ≤ w.heap.size
theorem rowIs_kept {w w' : World} {b : Nat} {t : TypeId} {n : Nat} {f : Nat → Value} {row : Option Nat} (h : w.rowIs b t n f) (hg : w.grownBy w' row) (hr : some b ≠ row) : w'.rowIs b t n f := h.of_block (hg.block b h.lt hr)
theorem below_grown {w w' : World} (hb : Below w.heap.size w w') : w.grownBy w' none := ⟨hb.os, hb.tape, hb.output, hb.size, fun k hk _ => hb.block k hk⟩
section
variable {W w w' : World} {cs : List Value} {n : Nat} {d : DS} {es : List VS} {vO vU : Value}
theorem OrdI.later (h : OrdI W cs n d es vO vU w) (hb : Below w.heap.size w w') : OrdI W cs n d es vO vU w' :=
  ⟨h.past.trans ⟨h.past.size, hb.mono h.past.size⟩, h.box.later hb, rowIs_kept h.mrow (below_grown hb) (by simp), h.mbox.later hb, h.ubox.later hb, h.urow.kept (below_grown hb) (by cases vU.ownBlock <;> simp), h.ents,
    fun v hv => (h.lst v hv).to hb.size (fun x _ hx _ _ => hb.block x hx) (fun _ e => .inl e) (fun _ e => .inl e), h.orow.kept (below_grown hb) (by cases vO.ownBlock <;> simp), h.ap, Nat.le_trans h.big hb.size⟩
theorem OrdI.alloc (h : OrdI W cs n d es vO vU w) (o : Obj) : OrdI W cs n d es vO vU (w.alloc o) := h.later ((Below.refl _ _).alloc (Nat.le_refl _) o)
theorem OrdI.drew (h : OrdI W cs n d es vO vU w) : OrdI W cs n d es vO vU w.drew := h.later ⟨rfl, rfl, rfl, Nat.le_refl _, fun _ _ => rfl⟩
theorem setCell_size (w : World) (a : Addr) (v : Value) : (w.setCell a v).heap.size = w.heap.size := by simp [World.setCell]
theorem OrdI.mark (h : OrdI W cs n d es vO vU w) (t : Nat) : OrdI W cs n ⟨d.st, d.out, t :: d.md⟩ es vO vU (w.setCell ⟨W.heap.size + 1, t, none⟩ (.bool true)) := by
  obtain ⟨h1, h2, h3, h4, h5, h6, h7, h8, h9, h10, h11⟩ := h
  refine ⟨h1.set (a := ⟨W.heap.size + 1, t, none⟩) (by dsimp only; omega) _, h2.other (by omega) _ _, (h3.set t _).congr (fun i hi => ?_), h4.other (by omega) _ _, h5.other (by omega) _ _, ?_, h7, fun v hv => ?_, ?_, h10, by rw [setCell_size]; exact h11⟩
  · by_cases e : i = t
    · subst e; simp
    · rw [if_neg e]; simp [e]
  · exact ownsRow_setCell_below h6 (by dsimp only; omega) _
  · exact (h8 v hv).to (by rw [setCell_size]; exact Nat.le_refl _) (fun x hx _ _ _ => Below.heap_setCell _ _ _ _ (by dsimp only; omega)) (fun _ e => .inl e) (fun _ e => .inl e)
  · exact ownsRow_setCell_below h9 (by dsimp only; omega) _
/-- The box of the stack written anew. -/
theorem OrdI.box_set {d' : DS} {es' : List VS} {vU' : Value} (h1 : Past W.heap.size W w) (h2 : Box W.heap.size cs w) (h3 : w.rowIs (W.heap.size + 1) 4 n (fun i => .bool (decide (i ∈ d'.md)))) (h4 : Box (W.heap.size + 2) [.slice (some ⟨W.heap.size + 1, 0, none⟩) n n] w) (h5 : Box (W.heap.size + 3) [vU] w)
    (h6 : w.ownsRow (W.heap.size + 4) 63 2 vU' es'.length (es'.flatMap visC)) (h7 : d'.st = (es'.map (fun v => (v.b, v.l))).reverse) (h8 : ∀ v ∈ es', Lst (W.heap.size + 4) vU'.ownBlock vO.ownBlock w v)
    (h9 : w.ownsRow (W.heap.size + 4) 3 1 vO d'.out.length ((ints d'.out.reverse).flatMap intC)) (h10 : ∀ x, vU'.ownBlock = some x → vO.ownBlock ≠ some x) (h11 : W.heap.size + 4 ≤ w.heap.size) :
    OrdI W cs n d' es' vO vU' (w.setCell ⟨W.heap.size + 3, 0, none⟩ vU') :=
  ⟨h1.set (a := ⟨W.heap.size + 3, 0, none⟩) (by dsimp only; omega) _, h2.other (by omega) _ _, h3.setOther (by dsimp only; omega) _, h4.other (by omega) _ _, h5.set 0 vU', ownsRow_setCell_below h6 (by dsimp only; omega) _, h7,
    fun v hv => (h8 v hv).to (by rw [setCell_size]; exact Nat.le_refl _) (fun x hx _ _ _ => Below.heap_setCell _ _ _ _ (by dsimp only; omega)) (fun _ e => .inl e) (fun _ e => .inl e), ownsRow_setCell_below h9 (by dsimp only; omega) _, h10, by rw [setCell_size]; exact h11⟩
theorem OrdI.push {vU' : Value} (h : OrdI W cs n d es vO vU w) {v : VS} (hv : Lst (W.heap.size + 4) none none w v) (hv1 : ∀ j, j < v.l.length → ∀ a, v.p = some a → some a.block ≠ vU.ownBlock ∧ some a.block ≠ vO.ownBlock)
    (hr : w'.ownsRow (W.heap.size + 4) 63 2 vU' (es.length + 1) (es.flatMap visC ++ visC v)) (hg : w.grownBy w' vU.ownBlock) (hm : Moved w vU vU') :
    OrdI W cs n ⟨(v.b, v.l) :: d.st, d.out, d.md⟩ (es ++ [v]) vO vU' (w'.setCell ⟨W.heap.size + 3, 0, none⟩ vU') := by
  obtain ⟨h1, h2, h3, h4, h5, h6, h7, h8, h9, h10, h11⟩ := h
  have hlt : ∀ g, vU.ownBlock = some g → W.heap.size + 4 ≤ g ∧ g < w.heap.size := h6.lt
  have hnew : ∀ x, vU'.ownBlock = some x → vU.ownBlock = some x ∨ w.heap.size ≤ x := fun x e => by
    rcases hm with e1 | e1
    · rw [e1] at e; exact .inl e
    · rw [e1] at e; injection e with e; exact .inr (Nat.le_of_eq e)
  have hL : Lst (W.heap.size + 4) vU.ownBlock vO.ownBlock w v := ⟨hv.1, hv.2.1, fun j hj => by
    obtain ⟨a, e, k1, k2, _, _, k3⟩ := hv.2.2 j hj
    exact ⟨a, e, k1, k2, (hv1 j hj a e).1, (hv1 j hj a e).2, k3⟩⟩
  refine OrdI.box_set (h1.grownRow hg (fun j e => by have := hlt j e; omega)) (h2.kept hg (fun e => by have := hlt _ e.symm; omega)) (rowIs_kept h3 hg (fun e => by have := hlt _ e.symm; omega)) (h4.kept hg (fun e => by have := hlt _ e.symm; omega)) (h5.kept hg (fun e => by have := hlt _ e.symm; omega)) ?_ ?_ (fun x hx => ?_) (h9.kept hg ?_) (fun x e => ?_) (Nat.le_trans h11 hg.size)
  · rw [List.length_append, List.flatMap_append, List.flatMap_cons, List.flatMap_nil, List.append_nil]; exact hr
  · rw [List.map_append, List.reverse_append, ← h7]; rfl
  · have hx' : Lst (W.heap.size + 4) vU.ownBlock vO.ownBlock w x := by
      rcases List.mem_append.1 hx with hx | hx
      · exact h8 x hx
      · obtain rfl := List.mem_singleton.1 hx; exact hL
    exact hx'.to hg.size (fun y _ hy hy1 _ => hg.block y hy hy1) hnew (fun _ e => .inl e)
  · by_cases e : vO.ownBlock = none
    · exact .inl e
    · refine .inr (fun e2 => ?_)
      cases hx : vU.ownBlock with
      | none => rw [hx] at e2; exact e e2
      | some x => exact h10 x hx (e2.trans hx)
  · rcases hnew x e with e | e
    · exact h10 x e
    · intro e2
      have := (h9.lt x e2).2
      omega
/-- A number behind the order. -/
theorem OrdI.more {vO' : Value} (h : OrdI W cs n d es vO vU w) {b : Nat} (hr : w'.ownsRow (W.heap.size + 4) 3 1 vO' (d.out.length + 1) ((ints d.out.reverse).flatMap intC ++ [.int .i64 b])) (hg : w.grownBy w' vO.ownBlock) (hm : Moved w vO vO') :
    OrdI W cs n ⟨d.st, b :: d.out, d.md⟩ es vO' vU w' := by
  obtain ⟨h1, h2, h3, h4, h5, h6, h7, h8, h9, h10, h11⟩ := h
  have hlt : ∀ g, vO.ownBlock = some g → W.heap.size + 4 ≤ g ∧ g < w.heap.size := h9.lt
  have hnew : ∀ x, vO'.ownBlock = some x → vO.ownBlock = some x ∨ w.heap.size ≤ x := fun x e => by
    rcases hm with e1 | e1
    · rw [e1] at e; exact .inl e
    · rw [e1] at e; injection e with e; exact .inr (Nat.le_of_eq e)
  refine ⟨h1.grownRow hg (fun j e => by have := hlt j e; omega), h2.kept hg (fun e => by have := hlt _ e.symm; omega), rowIs_kept h3 hg (fun e => by have := hlt _ e.symm; omega), h4.kept hg (fun e => by have := hlt _ e.symm; omega), h5.kept hg (fun e => by have := hlt _ e.symm; omega), h6.kept hg ?_, h7, fun x hx => (h8 x hx).to hg.size (fun y _ hy _ hy1 => hg.block y hy hy1) (fun _ e => .inl e) hnew, ?_, fun x e e2 => ?_, Nat.le_trans h11 hg.size⟩
  · by_cases e : vU.ownBlock = none
    · exact .inl e
    · refine .inr (fun e2 => ?_)
      cases hx : vU.ownBlock with
      | none => exact e hx
      | some x => exact h10 x hx (by rw [← e2]; exact hx)
  · show w'.ownsRow _ _ 1 vO' (d.out.length + 1) ((ints (b :: d.out).reverse).flatMap intC)
    rw [List.reverse_cons, ints_app, List.flatMap_append]
    exact hr
  · rcases hnew x e2 with e2 | e2
    · exact h10 x e e2
    · have := (h6.lt x e).2
      omega
/-- The last visit goes. -/
theorem OrdI.pop {v : VS} {g c : Nat} (h : OrdI W cs n d (es ++ [v]) vO (.slice (some ⟨g, 0, none⟩) (es.length + 1) c) w) :
    OrdI W cs n ⟨d.st.tail, d.out, d.md⟩ es vO (.slice (some ⟨g, 0, none⟩) es.length c) (w.setCell ⟨W.heap.size + 3, 0, none⟩ (.slice (some ⟨g, 0, none⟩) es.length c)) := by
  obtain ⟨h1, h2, h3, h4, h5, h6, h7, h8, h9, h10, h11⟩ := h
  refine OrdI.box_set h1 h2 h3 h4 h5 ?_ ?_ (fun x hx => h8 x (List.mem_append_left _ hx)) h9 h10 h11
  · rw [List.length_append, List.flatMap_append] at h6
    exact ownsRow_pop (by rw [flat_len visC 2 (fun _ => rfl)]) h6
  · show d.st.tail = _
    rw [h7, List.map_append, List.reverse_append]; rfl
/-- The last visit goes one on. -/
theorem OrdI.next {v : VS} {t : Nat} {r : List Nat} {g c : Nat} (h : OrdI W cs n d (es ++ [v]) vO (.slice (some ⟨g, 0, none⟩) (es.length + 1) c) w) {p : Option Addr} {k : Nat} (hv : Lst (W.heap.size + 4) (some g) vO.ownBlock w ⟨v.b, p, k, r⟩) :
    OrdI W cs n ⟨(v.b, r) :: d.st.tail, d.out, d.md⟩ (es ++ [⟨v.b, p, k, r⟩]) vO (.slice (some ⟨g, 0, none⟩) (es.length + 1) c) (w.setCell ⟨g, es.length * 2 + 1, none⟩ (.slice p r.length k)) := by
  obtain ⟨h1, h2, h3, h4, h5, h6, h7, h8, h9, h10, h11⟩ := h
  have hg := h6.lt g rfl
  have h6 : w.ownsRow (W.heap.size + 4) 63 2 (.slice (some ⟨g, 0, none⟩) (es.length + 1) c) (es.length + 1) ((es ++ [v]).flatMap visC) := by rw [List.length_append] at h6; exact h6
  have hst := h6.stored (es.length * 2 + 1) (.slice p r.length k)
  refine ⟨h1.set (a := ⟨g, es.length * 2 + 1, none⟩) (by dsimp only; omega) _, h2.other (by omega) _ _, h3.setOther (by dsimp only; omega) _, h4.other (by omega) _ _, h5.other (by omega) _ _, ?_, ?_, fun x hx => ?_, h9.kept hst.2 ?_, h10, by rw [setCell_size]; exact h11⟩
  · have h6' := hst.1
    have e : ((es ++ [v]).flatMap visC).set (es.length * 2 + 1) (.slice p r.length k) = (es ++ [(⟨v.b, p, k, r⟩ : VS)]).flatMap visC := by
      have hl : (es.flatMap visC).length = es.length * 2 := flat_len visC 2 (fun _ => rfl) es
      rw [List.flatMap_append, List.flatMap_append, List.set_append_right _ _ (by omega), hl]
      congr 1
      rw [show es.length * 2 + 1 - es.length * 2 = 1 by omega]
      rfl
    rw [e] at h6'
    rw [List.length_append]; exact h6'
  · show (v.b, r) :: d.st.tail = _
    rw [h7, List.map_append, List.map_append, List.reverse_append, List.reverse_append]; rfl
  · have hx' : Lst (W.heap.size + 4) (some g) vO.ownBlock w x := by
      rcases List.mem_append.1 hx with hx | hx
      · exact h8 x (List.mem_append_left _ hx)
      · obtain rfl := List.mem_singleton.1 hx; exact hv
    exact hx'.to (by rw [setCell_size]; exact Nat.le_refl _) (fun y _ hy hy1 _ => Below.heap_setCell _ _ _ _ (fun e => hy1 (congrArg some e))) (fun _ e => .inl e) (fun _ e => .inl e)
  · by_cases e : vO.ownBlock = none
    · exact .inl e
    · exact .inr (h10 g rfl)
theorem OrdI.fnS {f : LFn} (h : OrdI W cs n d es vO vU w) (hf : FnIn W.heap.size W f) : FnIn w.heap.size w f := past_lasts lasts_Fn hf h.past
end
end Go.Proofs.Ytphdhndljgihmaa
