/- Package dom: the walk's state in memory. -/
import Derived.Test.YtphdhndljgihmaaLtD
import Derived.Test.YtphdhndljgihmaaGPreB
namespace Go.Proofs.Ytphdhndljgihmaa
open Go.RowKit Go.Maps
set_option linter.unusedVariables false
set_option linter.unusedSimpArgs false

theorem pot_congr (S : Nat → List Nat) {m m' : List Nat} (h : ∀ x, x ∈ m ↔ x ∈ m') : ∀ k, pot S m k = pot S m' k
  | 0 => rfl
  | k + 1 => by
    unfold pot
    rw [pot_congr S h k]
    simp only [h k]
theorem pot_top (S : Nat → List Nat) (z : Nat) (hS : ∀ b, (S b).length ≤ z) : ∀ k, pot S [] k ≤ k * (1 + z)
  | 0 => by simp [pot]
  | k + 1 => by
    unfold pot
    have h1 := pot_top S z hS k
    have h2 := hS k
    rw [Nat.succ_mul, if_neg (by simp)]
    omega
/-- How long the walk may go on. -/
def mwk (S : Nat → List Nat) (n : Nat) (st : List Stp) (bl : List Nat) : Nat := st.length + pot S bl n
theorem mwk_take (S : Nat → List Nat) {n : Nat} {st : List Stp} {bl : List Nat} {b : Nat} {x : Stp} (hb : b < n) (hn : b ∉ bl) (c : Int) :
    mwk S n (((S b).map fun t => ((t, c) : Stp)).reverse ++ st) (bl ++ [b]) < mwk S n (x :: st) bl := by
  unfold mwk
  have h1 := pot_mark S bl b hn n hb
  have h2 := pot_congr S (m := bl ++ [b]) (m' := b :: bl) (fun x => by simp [or_comm]) n
  simp only [List.length_append, List.length_reverse, List.length_map, List.length_cons]
  omega
theorem mwk_skip (S : Nat → List Nat) {n : Nat} {st : List Stp} {bl : List Nat} {x : Stp} : mwk S n st bl < mwk S n (x :: st) bl := by
  unfold mwk
  simp only [List.length_cons]
  omega
/-- The number of each block; -1: none. -/
def nuI (bl : List Nat) (b : Nat) : Int := if b ∈ bl then (nuL bl b : Int) else -1
theorem nuI_in {bl : List Nat} {b : Nat} (h : b ∈ bl) : nuI bl b = (nuL bl b : Int) := if_pos h
theorem nuI_out {bl : List Nat} {b : Nat} (h : b ∉ bl) : nuI bl b = -1 := if_neg h
theorem nuI_snoc {bl : List Nat} {b : Nat} (h : b ∉ bl) (x : Nat) : nuI (bl ++ [b]) x = if x = b then (bl.length : Int) else nuI bl x := by
  unfold nuI nuL
  by_cases e : x = b
  · subst e
    rw [if_pos (by simp), if_pos rfl, List.idxOf_append, if_neg h]
    simp
  · rw [if_neg e]
    by_cases e2 : x ∈ bl
    · rw [if_pos (List.mem_append_left _ e2), if_pos e2, List.idxOf_append, if_pos e2]
    · rw [if_neg (by simp [e2, e]), if_neg e2]
def stC (x : Stp) : List Value := [.int .i64 x.1, .int .i64 x.2]
theorem stC_len (l : List Stp) : (l.flatMap stC).length = l.length * 2 := flat_len stC 2 (fun _ => rfl) l
/-- Two rows that lie apart. -/
def Sep (v u : Value) : Prop := ∀ g, v.ownBlock = some g → u.ownBlock ≠ some g
theorem Sep.symm {v u : Value} (h : Sep v u) : Sep u v := fun g h1 h2 => h g h2 h1
theorem Sep.moved {v v' u : Value} {w : World} (h : Sep v u) (hm : Moved w v v') (hu : ∀ g, u.ownBlock = some g → g < w.heap.size) : Sep v' u := fun g h1 h2 => by
  rcases hm with e | e
  · rw [e] at h1; exact h g h1 h2
  · rw [e] at h1; injection h1 with h1
    have := hu g h2
    omega
theorem Sep.kept {v u : Value} (h : Sep v u) : u.ownBlock = none ∨ u.ownBlock ≠ v.ownBlock := by
  cases e : u.ownBlock with
  | none => exact .inl rfl
  | some g => exact .inr fun e2 => h g e2.symm e
theorem sep_none {v : Value} {n c : Nat} : Sep v (.slice none n c) := fun g _ h => by simp [Value.ownBlock] at h
/-- What stands while the walk goes on. -/
structure WkI (W : World) (cs : List Value) (n : Nat) (nf : Nat → Int) (bl : List Nat) (pr : List Int) (sa : List Stp) (vb vp va : Value) (w : World) : Prop where
  past : Past W.heap.size W w
  fbox : Box W.heap.size cs w
  num : w.rowIs (W.heap.size + 2) 3 n (fun i => .int .i64 (nf i))
  wbox : Box (W.heap.size + 3) [vb, vp, .slice (some ⟨W.heap.size + 2, 0, none⟩) n n] w
  rb : w.ownsRow (W.heap.size + 4) 3 1 vb bl.length ((ints bl).flatMap intC)
  rp : w.ownsRow (W.heap.size + 4) 3 1 vp pr.length (pr.flatMap intC)
  ra : w.ownsRow (W.heap.size + 4) 76 2 va sa.length (sa.flatMap stC)
  sbp : Sep vb vp
  sba : Sep vb va
  spa : Sep vp va
  big : W.heap.size + 4 ≤ w.heap.size
  rbox : Box (W.heap.size + 1) [.slice none 0 0, .slice none 0 0, .slice none 0 0] w
section
variable {W w w' : World} {cs : List Value} {n : Nat} {nf : Nat → Int} {bl : List Nat} {pr : List Int} {sa : List Stp} {vb vp va v' : Value}
theorem WkI.later (h : WkI W cs n nf bl pr sa vb vp va w) (hb : Below w.heap.size w w') : WkI W cs n nf bl pr sa vb vp va w' :=
  ⟨h.past.trans ⟨h.past.size, hb.mono h.past.size⟩, h.fbox.later hb, rowIs_kept h.num (below_grown hb) (by simp), h.wbox.later hb, ownsRow_below h.rb hb, ownsRow_below h.rp hb, ownsRow_below h.ra hb, h.sbp, h.sba, h.spa, Nat.le_trans h.big hb.size, h.rbox.later hb⟩
theorem WkI.alloc (h : WkI W cs n nf bl pr sa vb vp va w) (o : Obj) : WkI W cs n nf bl pr sa vb vp va (w.alloc o) := h.later ((Below.refl _ _).alloc (Nat.le_refl _) o)
theorem WkI.congr {nf' : Nat → Int} (h : WkI W cs n nf bl pr sa vb vp va w) (e : ∀ i, i < n → nf i = nf' i) : WkI W cs n nf' bl pr sa vb vp va w :=
  ⟨h.past, h.fbox, h.num.congr (fun i hi => by rw [e i hi]), h.wbox, h.rb, h.rp, h.ra, h.sbp, h.sba, h.spa, h.big, h.rbox⟩
theorem WkI.setNum (h : WkI W cs n nf bl pr sa vb vp va w) (k : Nat) (x : Int) : WkI W cs n (fun i => if i = k then x else nf i) bl pr sa vb vp va (w.setCell ⟨W.heap.size + 2, k, none⟩ (.int .i64 x)) := by
  have hb := h.big
  refine ⟨h.past.set (by dsimp only; omega) _, h.fbox.other (by omega) _ _, (h.num.set k _).congr (fun i hi => by by_cases e : i = k <;> simp [e]), h.wbox.other (by omega) _ _, ownsRow_setCell_below h.rb (by dsimp only; omega) _, ownsRow_setCell_below h.rp (by dsimp only; omega) _, ownsRow_setCell_below h.ra (by dsimp only; omega) _, h.sbp, h.sba, h.spa, by rw [setCell_size]; exact hb, h.rbox.other (by omega) _ _⟩
theorem WkI.growA {x : Stp} (h : WkI W cs n nf bl pr sa vb vp va w) (hr : w'.ownsRow (W.heap.size + 4) 76 2 v' (sa.length + 1) (sa.flatMap stC ++ stC x)) (hg : w.grownBy w' va.ownBlock) (hm : Moved w va v') : WkI W cs n nf bl pr (sa ++ [x]) vb vp v' w' := by
  have la := h.ra.lt
  have hb := h.big
  refine ⟨h.past.grownRow hg (fun j e => by have := la j e; omega), h.fbox.kept hg (fun e => by have := la _ e.symm; omega), rowIs_kept h.num hg (fun e => by have := la _ e.symm; omega), h.wbox.kept hg (fun e => by have := la _ e.symm; omega), h.rb.kept hg h.sba.symm.kept, h.rp.kept hg h.spa.symm.kept, ?_, h.sbp, (h.sba.symm.moved hm fun g e => (h.rb.lt g e).2).symm, (h.spa.symm.moved hm fun g e => (h.rp.lt g e).2).symm, Nat.le_trans hb hg.size, h.rbox.kept hg (fun e => by have := la _ e.symm; omega)⟩
  rw [List.length_append, List.flatMap_append]
  simpa using hr
theorem WkI.growB {b : Nat} (h : WkI W cs n nf bl pr sa vb vp va w) (hr : w'.ownsRow (W.heap.size + 4) 3 1 v' (bl.length + 1) ((ints bl).flatMap intC ++ [.int .i64 b])) (hg : w.grownBy w' vb.ownBlock) (hm : Moved w vb v') : WkI W cs n nf (bl ++ [b]) pr sa v' vp va (w'.setCell ⟨W.heap.size + 3, 0, none⟩ v') := by
  have la := h.rb.lt
  have hb := h.big
  refine ⟨(h.past.grownRow hg (fun j e => by have := la j e; omega)).set (by dsimp only; omega) _, (h.fbox.kept hg (fun e => by have := la _ e.symm; omega)).other (by omega) _ _, (rowIs_kept h.num hg (fun e => by have := la _ e.symm; omega)).setOther (by dsimp only; omega) _, (h.wbox.kept hg (fun e => by have := la _ e.symm; omega)).set 0 v', ?_, ownsRow_setCell_below (h.rp.kept hg h.sbp.kept) (by dsimp only; omega) _, ownsRow_setCell_below (h.ra.kept hg h.sba.kept) (by dsimp only; omega) _, h.sbp.moved hm fun g e => (h.rp.lt g e).2, h.sba.moved hm fun g e => (h.ra.lt g e).2, h.spa, by rw [setCell_size]; exact Nat.le_trans hb hg.size, (h.rbox.kept hg (fun e => by have := la _ e.symm; omega)).other (by omega) _ _⟩
  refine ownsRow_setCell_below ?_ (by dsimp only; omega) _
  rw [List.length_append, ints_app, List.flatMap_append]
  exact hr
theorem WkI.growP {f : Int} (h : WkI W cs n nf bl pr sa vb vp va w) (hr : w'.ownsRow (W.heap.size + 4) 3 1 v' (pr.length + 1) (pr.flatMap intC ++ [.int .i64 f])) (hg : w.grownBy w' vp.ownBlock) (hm : Moved w vp v') : WkI W cs n nf bl (pr ++ [f]) sa vb v' va (w'.setCell ⟨W.heap.size + 3, 1, none⟩ v') := by
  have la := h.rp.lt
  have hb := h.big
  refine ⟨(h.past.grownRow hg (fun j e => by have := la j e; omega)).set (by dsimp only; omega) _, (h.fbox.kept hg (fun e => by have := la _ e.symm; omega)).other (by omega) _ _, (rowIs_kept h.num hg (fun e => by have := la _ e.symm; omega)).setOther (by dsimp only; omega) _, (h.wbox.kept hg (fun e => by have := la _ e.symm; omega)).set 1 v', ownsRow_setCell_below (h.rb.kept hg h.sbp.symm.kept) (by dsimp only; omega) _, ?_, ownsRow_setCell_below (h.ra.kept hg h.spa.kept) (by dsimp only; omega) _, (h.sbp.symm.moved hm fun g e => (h.rb.lt g e).2).symm, h.sba, h.spa.moved hm fun g e => (h.ra.lt g e).2, by rw [setCell_size]; exact Nat.le_trans hb hg.size, (h.rbox.kept hg (fun e => by have := la _ e.symm; omega)).other (by omega) _ _⟩
  refine ownsRow_setCell_below ?_ (by dsimp only; omega) _
  rw [List.length_append, List.flatMap_append]
  exact hr
theorem WkI.popA {x : Stp} {g m c : Nat} (h : WkI W cs n nf bl pr (sa ++ [x]) vb vp (.slice (some ⟨g, 0, none⟩) (m + 1) c) w) (hm : sa.length = m) : WkI W cs n nf bl pr sa vb vp (.slice (some ⟨g, 0, none⟩) m c) w := by
  subst hm
  refine ⟨h.past, h.fbox, h.num, h.wbox, h.rb, h.rp, ?_, h.sbp, h.sba, h.spa, h.big, h.rbox⟩
  have h1 := h.ra
  rw [List.flatMap_append, List.length_append] at h1
  exact ownsRow_pop (stC_len sa) h1
end
end Go.Proofs.Ytphdhndljgihmaa
