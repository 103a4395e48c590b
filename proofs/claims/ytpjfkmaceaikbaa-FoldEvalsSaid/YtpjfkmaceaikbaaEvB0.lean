/- Boxes of a call's own, as one fact. -/
import Derived.Test.YtpjfkmaceaikbaaMA
namespace Go.Proofs.Ytpjfkmaceaikbaa
open Go.RowKit Go.Maps
set_option linter.unusedVariables false
set_option linter.unusedSimpArgs false

/-- Beside what W had, there are these boxes. -/
def Fr (W : World) (bs : List (Nat × List Value)) (w : World) : Prop := Below W.heap.size W w ∧ ∀ x ∈ bs, W.heap.size ≤ x.1 ∧ Box x.1 x.2 w
theorem Fr.start (W : World) : Fr W [] W := ⟨Below.refl _ _, fun _ h => by cases h⟩
theorem Fr.later {W w w' : World} {bs : List (Nat × List Value)} (F : Fr W bs w) (hb : Below w.heap.size w w') : Fr W bs w' := ⟨F.1.trans (hb.mono F.1.size), fun x hx => ⟨(F.2 x hx).1, (F.2 x hx).2.later hb⟩⟩
theorem Fr.drew {W w : World} {bs : List (Nat × List Value)} (F : Fr W bs w) : Fr W bs w.drew := F.later (below_drew (Below.refl _ _))
theorem below_drewN (w : World) (n : Nat) : Below w.heap.size w (w.drewN n) := by
  have h := Below.refl w.heap.size w
  exact ⟨h.os, h.tape, h.output, h.size, h.block⟩
theorem Fr.drewN {W w : World} {bs : List (Nat × List Value)} (F : Fr W bs w) (n : Nat) : Fr W bs (w.drewN n) := F.later (below_drewN w n)
theorem Fr.push {W w : World} {bs : List (Nat × List Value)} {g : Nat} (F : Fr W bs w) (hg : g = w.heap.size) (cs : List Value) (t : TypeId) : Fr W ((g, cs) :: bs) (w.alloc (.cells cs.toArray t)) := by
  refine ⟨F.1.alloc F.1.size _, fun x hx => ?_⟩
  rcases List.mem_cons.1 hx with rfl | hx
  · exact ⟨by rw [hg]; exact F.1.size, Box.new w hg cs t⟩
  · exact ⟨(F.2 x hx).1, (F.2 x hx).2.alloc _⟩
theorem Fr.alloc {W w : World} {bs : List (Nat × List Value)} (F : Fr W bs w) (o : Obj) : Fr W bs (w.alloc o) := F.later ((Below.refl _ _).alloc (Nat.le_refl _) o)
theorem Fr.at {W w : World} {bs : List (Nat × List Value)} (F : Fr W bs w) (i : Nat) {g : Nat} {cs : List Value} (h : bs[i]? = some (g, cs)) : W.heap.size ≤ g ∧ Box g cs w := F.2 (g, cs) (List.mem_of_getElem? h)
theorem Fr.c4 {W w : World} {bs : List (Nat × List Value)} (F : Fr W bs w) (i : Nat) {g : Nat} {v0 v1 v2 v3 : Value} (h : bs[i]? = some (g, [v0, v1, v2, v3])) :
    w.cell? ⟨g, 0, none⟩ = some v0 ∧ w.cell? ⟨g, 1, none⟩ = some v1 ∧ w.cell? ⟨g, 2, none⟩ = some v2 ∧ w.cell? ⟨g, 3, none⟩ = some v3 ∧ ∀ i, w.frozen? ⟨g, i, none⟩ = false :=
  ⟨(F.at i h).2.get 0 _ rfl, (F.at i h).2.get 1 _ rfl, (F.at i h).2.get 2 _ rfl, (F.at i h).2.get 3 _ rfl, (F.at i h).2.2.1⟩
theorem Fr.c7 {W w : World} {bs : List (Nat × List Value)} (F : Fr W bs w) (i : Nat) {g : Nat} {v0 v1 v2 v3 v4 v5 v6 : Value} (h : bs[i]? = some (g, [v0, v1, v2, v3, v4, v5, v6])) :
    w.cell? ⟨g, 0, none⟩ = some v0 ∧ w.cell? ⟨g, 1, none⟩ = some v1 ∧ w.cell? ⟨g, 2, none⟩ = some v2 ∧ w.cell? ⟨g, 3, none⟩ = some v3 ∧ w.cell? ⟨g, 4, none⟩ = some v4 ∧ w.cell? ⟨g, 5, none⟩ = some v5 ∧ w.cell? ⟨g, 6, none⟩ = some v6 :=
  ⟨(F.at i h).2.get 0 _ rfl, (F.at i h).2.get 1 _ rfl, (F.at i h).2.get 2 _ rfl, (F.at i h).2.get 3 _ rfl, (F.at i h).2.get 4 _ rfl, (F.at i h).2.get 5 _ rfl, (F.at i h).2.get 6 _ rfl⟩
/-- The result's box has been stored into. -/
theorem Fr.set4 {W w : World} {bs : List (Nat × List Value)} (F : Fr W bs w) (i : Nat) {g : Nat} {cs : List Value} (h : bs[i]? = some (g, cs)) (u0 u1 u2 u3 : Value) :
    Below W.heap.size W ((((w.setCell ⟨g, 0, none⟩ u0).setCell ⟨g, 1, none⟩ u1).setCell ⟨g, 2, none⟩ u2).setCell ⟨g, 3, none⟩ u3) := by
  have hg := (F.at i h).1
  have P : Past W.heap.size W w := ⟨Nat.le_refl _, F.1⟩
  exact ((((P.set (a := ⟨g, 0, none⟩) hg u0).set (a := ⟨g, 1, none⟩) hg u1).set (a := ⟨g, 2, none⟩) hg u2).set (a := ⟨g, 3, none⟩) hg u3).2
end Go.Proofs.Ytpjfkmaceaikbaa
