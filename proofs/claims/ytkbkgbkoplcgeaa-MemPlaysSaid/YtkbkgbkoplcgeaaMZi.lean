/- The document's memory: Store. -/
import Derived.Test.YtkbkgbkoplcgeaaMZh
namespace Go.Proofs.Ytkbkgbkoplcgeaa
open Go.RowKit Go.Maps
set_option linter.unusedVariables false
set_option linter.unusedSimpArgs false

/-- A memory of the call's own, its memory in blocks A to B. -/
structure RmAt (A B : Nat) (D : Dm) (q : Option Addr) (d : Nat) (ys : List Rk) (w : World) : Prop where
  own : RmOwn A B w q d ys
  small : ∀ y ∈ ys, y.l.length ≤ 4096
  shows : D = ys.map rkD
theorem RmAt.lies {A B : Nat} {D : Dm} {q : Option Addr} {d : Nat} {ys : List Rk} {w : World} (h : RmAt A B D q d ys w) (hB : B ≤ w.heap.size) : RmIn w q d ys D := by
  rw [h.shows]; exact RmOwn.lies h.own hB h.small
theorem RmAt.later {A B : Nat} {D : Dm} {q : Option Addr} {d : Nat} {ys : List Rk} {w w' : World} (h : RmAt A B D q d ys w) (hB : B ≤ w.heap.size) (hb : Below w.heap.size w w') : RmAt A B D q d ys w' :=
  ⟨ListOwn.stay local_Rk h.own (fun k _ hk => hb.block k (by omega)), h.small, h.shows⟩
theorem RmAt.byte {A B : Nat} {D : Dm} {q : Option Addr} {d : Nat} {ys : List Rk} {w : World} (h : RmAt A B D q d ys w) (i : Nat) (hi : i < ys.length) (ha : ys[i].a = true) (j : Nat) (hj : j < ys[i].l.length) (y : By) :
    ∃ g, ys[i].p = some ⟨g, 0, none⟩ ∧ A ≤ g ∧ g < B ∧ (w.cell? ⟨g, j * 5, none⟩ = some (.int .i64 ys[i].l[j].k) ∧ w.cell? ⟨g, j * 5 + 1, none⟩ = some (.int .u8 ys[i].l[j].b) ∧ w.cell? ⟨g, j * 5 + 2, none⟩ = some (.int .i64 ys[i].l[j].bk) ∧ w.cell? ⟨g, j * 5 + 3, none⟩ = some (.int .i64 ys[i].l[j].o) ∧ w.cell? ⟨g, j * 5 + 4, none⟩ = some (.int .i64 ys[i].l[j].i) ∧ ∀ i, w.frozen? ⟨g, i, none⟩ = false) ∧
      RmAt A B (D.set i (some (ys[i].l.set j y))) q d (ys.set i ⟨ys[i].a, ys[i].p, ys[i].c, ys[i].l.set j y⟩) (w.setCells g (j * 5) (byC y)) := by
  obtain ⟨g, eg, hg1, hg2, hc, ho⟩ := h.own.byte i hi j hj y
  refine ⟨g, eg, hg1, hg2, hc, ⟨ho, fun z hz => ?_, ?_⟩⟩
  · rcases List.mem_or_eq_of_mem_set hz with hz | rfl
    · exact h.small z hz
    · show (ys[i].l.set j y).length ≤ 4096
      rw [List.length_set]
      exact h.small _ (List.getElem_mem hi)
  · rw [h.shows, List.map_set]
    congr 1
    show _ = rkD _
    unfold rkD
    simp only
    rw [ha]
    rfl
theorem RmNew.atB {W : World} {D : Dm} {q : Option Addr} {d : Nat} {ys : List Rk} {w : World} (h : RmNew W D q d ys w) : RmAt W.heap.size w.heap.size D q d ys w := ⟨h.own, h.small, h.shows⟩
theorem RmAt.new {W W0 : World} {B : Nat} {D : Dm} {q : Option Addr} {d : Nat} {ys : List Rk} {w : World} (h : RmAt W0.heap.size B D q d ys w) (hW : Below W.heap.size W W0) (hp : Past W0.heap.size W0 w) (hB : B ≤ w.heap.size) : RmNew W D q d ys w :=
  ⟨⟨h.own.1, h.own.2.1.mono hW.size, fun g e => Nat.lt_of_lt_of_le (h.own.2.2.1 g e) hB, (h.own.2.2.2.down hW.size).up hB⟩, h.small, h.shows, ⟨Nat.le_refl _, hW.trans (hp.2.mono hW.size)⟩⟩
theorem put_nil {α : Type} (L : List α) (f : Nat) : put L f [] = L := by unfold put; simp
theorem put_step {α : Type} (L P : List α) (f k : Nat) (hk : k < P.length) (hf : f + P.length ≤ L.length) : (put L f (P.take k)).set (f + k) P[k] = put L f (P.take (k + 1)) := by
  have l1 : (P.take k).length = k := by rw [List.length_take]; omega
  have l2 : (P.take (k + 1)).length = k + 1 := by rw [List.length_take]; omega
  refine List.ext_getElem? fun m => ?_
  rw [List.getElem?_set, put_get _ _ _ (by omega), put_get _ _ _ (by omega), put_len _ _ _ (by omega), l1, l2]
  by_cases e : f + k = m
  · subst e
    rw [if_pos rfl, if_pos (by omega), if_neg (by omega), if_pos (by omega), List.getElem?_take, show f + k - f = k by omega, if_pos (by omega), List.getElem?_eq_getElem hk]
  · rw [if_neg e]
    by_cases h1 : m < f
    · rw [if_pos h1, if_pos h1]
    · rw [if_neg h1, if_neg h1]
      by_cases h2 : m < f + k
      · rw [if_pos h2, if_pos (by omega), List.getElem?_take, List.getElem?_take, if_pos (by omega), if_pos (by omega)]
      · rw [if_neg h2, if_neg (by omega)]
end Go.Proofs.Ytkbkgbkoplcgeaa
