/- Both memories side by side: the program's and the document's. -/
import Derived.Test.YtkbkgbkoplcgeaaMZl
import Derived.Test.YtkbkgbkoplcgeaaMU
import Derived.Test.YtkbkgbkoplcgeaaMAp
namespace Go.Proofs.Ytkbkgbkoplcgeaa
open Go.RowKit Go.Maps
set_option linter.unusedVariables false
set_option linter.unusedSimpArgs false

/-- All bytes that it shows are bytes. -/
def DmOk (D : Dm) : Prop := ∀ l, some l ∈ D → ∀ y ∈ l, y.ok
theorem q0_ok : q0.ok := ⟨by decide, by decide⟩
theorem nB_ok {b : Int} (h : 0 ≤ b ∧ b ≤ 255) : (nB b).ok := h
theorem DmOk.at {D : Dm} (h : DmOk D) (k : Int) : ∀ y ∈ dBytes D k, y.ok := by
  unfold dBytes
  cases e : atD D k with
  | none => intro y hy; cases hy
  | some l =>
    unfold atD at e
    split at e
    · rw [List.getD_eq_getElem?_getD] at e
      cases e2 : D[k.toNat]? with
      | none => rw [e2] at e; cases e
      | some x =>
        rw [e2] at e
        have : x = some l := e
        subst this
        exact h l (List.mem_of_getElem? e2)
    · cases e
theorem DmOk.new {D : Dm} (h : DmOk D) (n : Int) {y : By} (hy : y.ok) : DmOk (dNew D n y) := fun l hl z hz => by
  unfold dNew at hl
  rcases List.mem_append.1 hl with hl | hl
  · exact h l hl z hz
  · have : l = List.replicate (bnd n) y := by simpa using hl
    subst this
    rw [(List.mem_replicate.1 hz).2]
    exact hy
theorem DmOk.news (xs : List Int) : DmOk (dNews xs) := fun l hl z hz => by
  unfold dNews at hl
  obtain ⟨n, _, e⟩ := List.mem_map.1 hl
  injection e with e
  subst e
  rw [(List.mem_replicate.1 hz).2]
  exact nB_ok ⟨by decide, by decide⟩
theorem lost_ok {k : Int} {y : By} (h : y.ok) : (lostTo k y).ok := by unfold lostTo; split; exact q0_ok; exact h
theorem mem_setx {D : Dm} {i : Nat} {x : Option (List By)} {l : List By} (h : some l ∈ D.set i x) : some l ∈ D ∨ x = some l := by
  rcases List.mem_or_eq_of_mem_set h with h | h
  · exact .inl h
  · exact .inr h.symm
theorem DmOk.free {D : Dm} (h : DmOk D) (k : Int) : DmOk (dFree D k) := by
  unfold dFree
  cases atD D k with
  | none => exact h
  | some l0 =>
    intro l hl z hz
    obtain ⟨x, hx, e⟩ := List.mem_map.1 hl
    cases x with
    | none => cases e
    | some m =>
      have e2 : m.map (lostTo k) = l := by injection e
      subst e2
      obtain ⟨y, hy, rfl⟩ := List.mem_map.1 hz
      rcases mem_setx hx with hx | hx
      · exact lost_ok (h m hx y hy)
      · cases hx
theorem put_mem {α : Type} {L ys : List α} {p : Nat} {z : α} (h : z ∈ put L p ys) : z ∈ L ∨ z ∈ ys := by
  unfold put at h
  rcases List.mem_append.1 h with h | h
  · rcases List.mem_append.1 h with h | h
    · exact .inl (List.mem_of_mem_take h)
    · exact .inr h
  · exact .inl (List.mem_of_mem_drop h)
theorem DmOk.put {D : Dm} (h : DmOk D) (i : Nat) (k : Int) (p : Nat) {ys : List By} (hy : ∀ y ∈ ys, y.ok) : DmOk (D.set i (some (put (dBytes D k) p ys))) := fun l hl z hz => by
  rcases mem_setx hl with hl | hl
  · exact h l hl z hz
  · injection hl with hl
    subst hl
    rcases put_mem hz with hz | hz
    · exact h.at k z hz
    · exact hy z hz
theorem DmOk.store {D : Dm} (h : DmOk D) (t : Int) (x v : Vl) : DmOk (dStore D t x v) := by
  unfold dStore
  split
  · exact h.put _ _ _ (pack_ok t x)
  · exact h
theorem DmOk.setB {D : Dm} (h : DmOk D) (k a : Int) {b : Int} (hb : 0 ≤ b ∧ b ≤ 255) : DmOk (dSet D k a b) := by
  unfold dSet
  split
  · exact h.put _ _ _ (fun y hy => by simp at hy; subst hy; exact nB_ok hb)
  · exact h
theorem DmOk.rows {D : Dm} {ys : List Rk} (h : DmOk D) (e : D = ys.map rkD) : ∀ x ∈ ys, x.a = true → ∀ y ∈ x.l, y.ok := fun x hx ha y hy => h x.l (by
  rw [e]
  refine List.mem_map.2 ⟨x, hx, ?_⟩
  unfold rkD
  rw [if_pos ha]) y hy
/-- What a step makes of what is shown. -/
def plD (D : Dm) (s : Sp) : Dm := if s.kind = 1 then dNew D s.a q0 else if s.kind = 2 then dFree D s.a else if s.kind = 4 then dStore D s.t s.v s.at' else if s.kind = 5 then dSet D s.a s.b s.y else D
theorem plD_ok {D : Dm} (h : DmOk D) (s : Sp) (hs : SpOk s) : DmOk (plD D s) := by
  unfold plD
  split
  · exact h.new _ q0_ok
  · split
    · exact h.free _
    · split
      · exact h.store _ _ _
      · split
        · exact h.setB _ _ hs.2.2.2.2.2.2
        · exact h
theorem dSet_len' (D : Dm) (k a b : Int) : (dSet D k a b).length = D.length := by unfold dSet; split <;> simp
theorem plD_len (D : Dm) (s : Sp) : (plD D s).length ≤ D.length + 1 := by
  unfold plD
  split
  · unfold dNew; simp
  · split
    · rw [dFree_len]; omega
    · split
      · unfold dStore; split <;> simp
      · split
        · rw [dSet_len']; omega
        · omega
/-- The program's memory shows D, the document's E, in blocks A to B that aren't the program's. -/
structure Pl (W : World) (o : Nat → Nat) (mb : Nat) (D E : Dm) (A B : Nat) (q : Option Addr) (d : Nat) (ys : List Rk) (w : World) : Prop where
  m : MemD o mb D w
  r : RmAt A B E q d ys w
  lo : W.heap.size ≤ A
  hi : B ≤ w.heap.size
  z : ∀ k, A ≤ k → k < B → o k = 0
  low : ∀ k, k < W.heap.size → o k = 0
  past : Below W.heap.size W w
theorem Pl.later {W : World} {o : Nat → Nat} {mb : Nat} {D E : Dm} {A B : Nat} {q : Option Addr} {d : Nat} {ys : List Rk} {w w' : World} (h : Pl W o mb D E A B q d ys w) (hb : Below w.heap.size w w') : Pl W o mb D E A B q d ys w' :=
  ⟨h.m.later hb, h.r.later h.hi hb, h.lo, Nat.le_trans h.hi hb.size, h.z, h.low, h.past.trans (hb.mono h.past.size)⟩
theorem Pl.goM {W : World} {o : Nat → Nat} {mb : Nat} {D E D' : Dm} {A B : Nat} {q : Option Addr} {d : Nat} {ys : List Rk} {w w' : World} (h : Pl W o mb D E A B q d ys w) (g : GoesD o mb D' w w') : ∃ o', Pl W o' mb D' E A B q d ys w' := by
  obtain ⟨o', g1, g2, g3⟩ := g
  refine ⟨o', g1, ⟨ListOwn.stay local_Rk h.r.own (fun k ha hk => g2.block k (Nat.lt_of_lt_of_le hk h.hi) (h.z k ha hk)), h.r.small, h.r.shows⟩, h.lo, Nat.le_trans h.hi g2.size, fun k ha hk => ?_, fun k hk => ?_, only_past h.past g2 h.low⟩
  · exact (g3 k (Nat.lt_of_lt_of_le hk h.hi)).trans (h.z k ha hk)
  · exact (g3 k (Nat.lt_of_lt_of_le hk h.past.size)).trans (h.low k hk)
theorem Pl.goR {W : World} {o : Nat → Nat} {mb : Nat} {D E E' : Dm} {A B : Nat} {q q' : Option Addr} {d d' : Nat} {ys ys' : List Rk} {w w' : World} (h : Pl W o mb D E A B q d ys w) (g : RmNew w E' q' d' ys' w') : Pl W o mb D E' w.heap.size w'.heap.size q' d' ys' w' := by
  refine ⟨h.m.later g.past.2, g.atB, h.past.size, Nat.le_refl _, fun k hk _ => ?_, h.low, h.past.trans (g.past.2.mono h.past.size)⟩
  obtain ⟨ab, st, m1, _, _⟩ := h.m
  refine Classical.byContradiction fun hn => ?_
  have := m1.inside k hn
  omega
theorem Pl.lies {W : World} {o : Nat → Nat} {mb : Nat} {D E : Dm} {A B : Nat} {q : Option Addr} {d : Nat} {ys : List Rk} {w : World} (h : Pl W o mb D E A B q d ys w) : RmIn w q d ys E := h.r.lies h.hi
theorem box_same {w w' : World} {g : Nat} {cs : List Value} (h : Box g cs w) (hs : w.heap.size ≤ w'.heap.size) (e : w'.heap[g]? = w.heap[g]?) : Box g cs w' :=
  ⟨Nat.lt_of_lt_of_le h.1 hs, fun i => (World.frozen?_of_block (a := ⟨g, i, none⟩) e).trans (h.2.1 i), fun i u hu => (World.cell?_of_block (a := ⟨g, i, none⟩) e).trans (h.2.2 i u hu)⟩
/-- The same, and a box of one's own beside them. -/
structure Pb (W : World) (o0 : Nat → Nat) (w0 : World) (o : Nat → Nat) (mb : Nat) (D E : Dm) (A B : Nat) (q : Option Addr) (d : Nat) (ys : List Rk) (g : Nat) (cs : List Value) (w : World) : Prop where
  p : Pl W o mb D E A B q d ys w
  b : Box g cs w
  og : o g = 0
  on : Only o0 w0 w
  ex : Ext o0 o w0
theorem Pb.later {W : World} {o0 : Nat → Nat} {w0 : World} {o : Nat → Nat} {mb : Nat} {D E : Dm} {A B : Nat} {q : Option Addr} {d : Nat} {ys : List Rk} {g : Nat} {cs : List Value} {w w' : World} (h : Pb W o0 w0 o mb D E A B q d ys g cs w) (hb : Below w.heap.size w w') : Pb W o0 w0 o mb D E A B q d ys g cs w' := ⟨h.p.later hb, h.b.later hb, h.og, h.on.trans h.ex (Only.of_below hb), h.ex⟩
theorem Pb.goM {W : World} {o0 : Nat → Nat} {w0 : World} {o : Nat → Nat} {mb : Nat} {D E D' : Dm} {A B : Nat} {q : Option Addr} {d : Nat} {ys : List Rk} {g : Nat} {cs : List Value} {w w' : World} (h : Pb W o0 w0 o mb D E A B q d ys g cs w) (gd : GoesD o mb D' w w') : ∃ o', Pb W o0 w0 o' mb D' E A B q d ys g cs w' := by
  obtain ⟨o', g1, g2, g3⟩ := gd
  have hb := box_same h.b g2.size (g2.block g h.b.1 h.og)
  have ho : o' g = 0 := (g3 g h.b.1).trans h.og
  refine ⟨o', ⟨g1, ⟨ListOwn.stay local_Rk h.p.r.own (fun k ha hk => g2.block k (Nat.lt_of_lt_of_le hk h.p.hi) (h.p.z k ha hk)), h.p.r.small, h.p.r.shows⟩, h.p.lo, Nat.le_trans h.p.hi g2.size, fun k ha hk => ?_, fun k hk => ?_, only_past h.p.past g2 h.p.low⟩, hb, ho, h.on.trans h.ex g2, h.ex.trans h.on.size g3⟩
  · exact (g3 k (Nat.lt_of_lt_of_le hk h.p.hi)).trans (h.p.z k ha hk)
  · exact (g3 k (Nat.lt_of_lt_of_le hk h.p.past.size)).trans (h.p.low k hk)
theorem Pb.goR {W : World} {o0 : Nat → Nat} {w0 : World} {o : Nat → Nat} {mb : Nat} {D E E' : Dm} {A B : Nat} {q q' : Option Addr} {d d' : Nat} {ys ys' : List Rk} {g : Nat} {cs : List Value} {w w' : World} (h : Pb W o0 w0 o mb D E A B q d ys g cs w) (gr : RmNew w E' q' d' ys' w') : Pb W o0 w0 o mb D E' w.heap.size w'.heap.size q' d' ys' g cs w' := ⟨h.p.goR gr, h.b.later gr.past.2, h.og, h.on.trans h.ex (Only.of_below gr.past.2), h.ex⟩
theorem Pl.box {W : World} {o : Nat → Nat} {mb : Nat} {D E : Dm} {A B : Nat} {q : Option Addr} {d : Nat} {ys : List Rk} {w : World} (h : Pl W o mb D E A B q d ys w) (cs : List Value) (t : TypeId) : Pb W o w o mb D E A B q d ys w.heap.size cs (w.alloc (.cells cs.toArray t)) := by
  refine ⟨h.later (below1 w _), Box.new w rfl cs t, ?_, Only.of_below (below1 w _), Ext.refl _ _⟩
  obtain ⟨ab, st, m1, _, _⟩ := h.m
  refine Classical.byContradiction fun hn => ?_
  have := m1.inside w.heap.size hn
  omega
theorem Pb.cells {W : World} {o0 : Nat → Nat} {w0 : World} {o : Nat → Nat} {mb : Nat} {D E : Dm} {A B : Nat} {q : Option Addr} {d : Nat} {ys : List Rk} {g : Nat} {v0 v1 v2 v3 v4 v5 v6 v7 v8 v9 v10 v11 v12 : Value} {w : World} (h : Pb W o0 w0 o mb D E A B q d ys g [v0, v1, v2, v3, v4, v5, v6, v7, v8, v9, v10, v11, v12] w) :
    w.cell? ⟨g, 0, none⟩ = some v0 ∧ w.cell? ⟨g, 1, none⟩ = some v1 ∧ w.cell? ⟨g, 2, none⟩ = some v2 ∧ w.cell? ⟨g, 3, none⟩ = some v3 ∧ w.cell? ⟨g, 4, none⟩ = some v4 ∧ w.cell? ⟨g, 5, none⟩ = some v5 ∧ w.cell? ⟨g, 6, none⟩ = some v6 ∧ w.cell? ⟨g, 7, none⟩ = some v7 ∧ w.cell? ⟨g, 8, none⟩ = some v8 ∧ w.cell? ⟨g, 9, none⟩ = some v9 ∧ w.cell? ⟨g, 10, none⟩ = some v10 ∧ w.cell? ⟨g, 11, none⟩ = some v11 ∧ w.cell? ⟨g, 12, none⟩ = some v12 :=
  ⟨h.b.get 0 _ rfl, h.b.get 1 _ rfl, h.b.get 2 _ rfl, h.b.get 3 _ rfl, h.b.get 4 _ rfl, h.b.get 5 _ rfl, h.b.get 6 _ rfl, h.b.get 7 _ rfl, h.b.get 8 _ rfl, h.b.get 9 _ rfl, h.b.get 10 _ rfl, h.b.get 11 _ rfl, h.b.get 12 _ rfl⟩
/-- One block changes that is neither the program's nor the document's. -/
theorem Pl.touch {W : World} {o : Nat → Nat} {mb : Nat} {D E : Dm} {A B : Nat} {q : Option Addr} {d : Nat} {ys : List Rk} {w w' : World} {g : Nat} (h : Pl W o mb D E A B q d ys w) (ho : o g = 0) (hA : g < A ∨ B ≤ g) (hs : w.heap.size ≤ w'.heap.size) (hp : Below W.heap.size W w') (hb : ∀ k, k ≠ g → w'.heap[k]? = w.heap[k]?) : Pl W o mb D E A B q d ys w' := by
  obtain ⟨ab, st, m1, m2, m3⟩ := h.m
  refine ⟨⟨ab, st, m1.same hs (fun k hk => hb k (fun e => hk (by rw [e]; exact ho))), m2, m3⟩, ⟨ListOwn.stay local_Rk h.r.own (fun k ha hk => hb k (fun e => by omega)), h.r.small, h.r.shows⟩, h.lo, Nat.le_trans h.hi hs, h.z, h.low, hp⟩
theorem Pl.free {W : World} {o : Nat → Nat} {mb : Nat} {D E : Dm} {A B : Nat} {q : Option Addr} {d : Nat} {ys : List Rk} {w : World} (h : Pl W o mb D E A B q d ys w) {g : Nat} (hg : w.heap.size ≤ g) : o g = 0 := by
  obtain ⟨ab, st, m1, _, _⟩ := h.m
  refine Classical.byContradiction fun hn => ?_
  have := m1.inside g hn
  omega
end Go.Proofs.Ytkbkgbkoplcgeaa
