/- Rows of bytes that were told of a memory's blocks. -/
import Derived.Test.YtkbkgbkoplcgeaaMAp
namespace Go.Proofs.Ytkbkgbkoplcgeaa
open Go.RowKit Go.Maps
set_option linter.unusedVariables false
set_option linter.unusedSimpArgs false

abbrev Wx := Option Addr × Nat × List By
def rC (x : Wx) : List Value := [.slice x.1 x.2.2.length x.2.1]
theorem rC_one (x : Wx) : ∀ u ∈ rC x, u.oneCell' = true := by intro u hu; unfold rC at hu; simp at hu; rw [hu]; rfl
structure Wa (W : World) (o : Nat → Nat) (xs : List Wx) (pw : Option Addr) (cw : Nat) (w : World) : Prop where
  row : w.ownsRow W.heap.size 25 1 (.slice pw xs.length cw) xs.length (xs.flatMap rC)
  out : ∀ g, (Value.slice pw xs.length cw).ownBlock = some g → o g = 0
  each : ∀ x ∈ xs, w.ownsRow W.heap.size 32 5 (.slice x.1 x.2.2.length x.2.1) x.2.2.length (x.2.2.flatMap byC) ∧ ∀ g, (Value.slice x.1 x.2.2.length x.2.1).ownBlock = some g → o g = 0
theorem Wa.nil (W : World) (o : Nat → Nat) (w : World) : Wa W o [] none 0 w := ⟨World.ownsRow_nil _ _ _ _, fun g h => by simp [Value.ownBlock] at h, fun x h => by cases h⟩
theorem Wa.later {W : World} {o : Nat → Nat} {xs : List Wx} {pw : Option Addr} {cw : Nat} {w w' : World} (h : Wa W o xs pw cw w) (hb : Below w.heap.size w w') : Wa W o xs pw cw w' :=
  ⟨ownsRow_below h.row hb, h.out, fun x hx => ⟨ownsRow_below (h.each x hx).1 hb, (h.each x hx).2⟩⟩
theorem Wa.only {W : World} {o o' : Nat → Nat} {xs : List Wx} {pw : Option Addr} {cw : Nat} {w w' : World} (h : Wa W o xs pw cw w) (g : Only o w w') (he : Ext o o' w) : Wa W o' xs pw cw w' :=
  ⟨row_same h.row (fun j hj => g.block j (h.row.lt j hj).2 (h.out j hj)), fun j hj => (he j (h.row.lt j hj).2).trans (h.out j hj),
    fun x hx => ⟨row_same (h.each x hx).1 (fun j hj => g.block j ((h.each x hx).1.lt j hj).2 ((h.each x hx).2 j hj)), fun j hj => (he j ((h.each x hx).1.lt j hj).2).trans ((h.each x hx).2 j hj)⟩⟩
theorem Wa.snoc {W : World} {o : Nat → Nat} {mb : Nat} {D : Dm} {xs : List Wx} {pw : Option Addr} {cw : Nat} {w w1 w3 : World} (h : Wa W o xs pw cw w) (hm : MemD o mb D w) (hW : W.heap.size ≤ w.heap.size) (x : Wx) (A : Obj)
    (hx : w1.ownsRow w.heap.size 32 5 (.slice x.1 x.2.2.length x.2.1) x.2.2.length (x.2.2.flatMap byC)) (hb : Below w.heap.size w w1)
    {q : Option Addr} {c : Nat} (ho : w3.ownsRow W.heap.size 25 1 (.slice q (xs.length + 1) c) (xs.length + 1) (xs.flatMap rC ++ rC x)) (hg : (w1.alloc A).grownBy w3 (Value.slice pw xs.length cw).ownBlock) (hmv : Moved (w1.alloc A) (.slice pw xs.length cw) (.slice q (xs.length + 1) c)) : Wa W o (xs ++ [x]) q c w3 := by
  have h1 := (h.later hb).later (below1 w1 A)
  have hs := hb.size
  have el : (xs ++ [x]).length = xs.length + 1 := by simp
  have hin := hm.inside
  refine ⟨?_, fun g hgg => ?_, fun y hy => ?_⟩
  · rw [el, List.flatMap_append]
    simpa using ho
  · rw [el] at hgg
    rcases hmv with e | e
    · exact h.out g (e.symm.trans hgg)
    · rw [e] at hgg
      injection hgg with hgg
      by_cases e2 : o g = 0
      · exact e2
      · have := hin g e2
        simp at hgg
        omega
  · rcases List.mem_append.1 hy with hy | hy
    · exact ⟨(h1.each y hy).1.kept hg (rows_apart (h1.each y hy).1 h1.row (by decide)), (h.each y hy).2⟩
    · have : y = x := by simpa using hy
      subst this
      have hx2 : (w1.alloc A).ownsRow W.heap.size 32 5 (.slice y.1 y.2.2.length y.2.1) y.2.2.length (y.2.2.flatMap byC) := (hx.mono hW).alloc A
      refine ⟨hx2.kept hg (rows_apart hx2 h1.row (by decide)), fun g hgg => ?_⟩
      by_cases e2 : o g = 0
      · exact e2
      · have := hin g e2
        have := (hx.lt g hgg).1
        omega
theorem infoBys : (Try.prog.info? 25).map (fun i => (i.zero, i.size, i.bytes)) = some (some (.slice none 0 0), 1, 24) := by kernel_rfl
/-- A told row's cell. -/
theorem Wa.cell {W : World} {o : Nat → Nat} {xs : List Wx} {pw : Option Addr} {cw : Nat} {w : World} (h : Wa W o xs pw cw w) (i : Nat) (hi : i < xs.length) : ∃ g, pw = some ⟨g, 0, none⟩ ∧ w.cell? ⟨g, i, none⟩ = some (.slice xs[i].1 xs[i].2.2.length xs[i].2.1) ∧ BysIn w.heap.size w xs[i].1 xs[i].2.2.length xs[i].2.1 xs[i].2.2 ∧ xs.length ≤ cw ∧ cw ≤ maxLen := by
  rcases h.row.2 with ⟨e, h0⟩ | ⟨g, cap, cur, e, _, _, h1, h2, _⟩
  · omega
  · injection e with e1 e2 e3
    subst e1 e3
    have hr := own_range (f := rC) (m := 1) (fun _ => rfl) h.row i hi 0 _ rfl
    refine ⟨g, rfl, by simpa using hr, bytes_in (h.each _ (List.getElem_mem hi)).1 rfl, h1, h2⟩
/-! What Free does, on what a memory shows. -/
theorem atD_free (D : Dm) (k j : Int) (hk : 0 ≤ k ∧ k < D.length ∨ atD D k = none) : atD (dFree D k) j = if j = k then none else match atD D k with | none => atD D j | some _ => (atD D j).map (List.map (lostTo k)) := by
  unfold dFree
  cases h : atD D k with
  | none =>
    by_cases e : j = k
    · subst e; rw [if_pos rfl]; exact h
    · rw [if_neg e]
  | some l =>
    have hb : 0 ≤ k ∧ k < D.length := by
      rcases hk with h2 | h2
      · exact h2
      · rw [h2] at h; cases h
    show atD ((D.set k.toNat none).map (Option.map (List.map (lostTo k)))) j = _
    unfold atD
    by_cases h0 : 0 ≤ j
    · rw [if_pos h0, if_pos h0, List.getD_eq_getElem?_getD, List.getD_eq_getElem?_getD, List.getElem?_map, List.getElem?_set]
      by_cases e : j = k
      · subst e
        rw [if_pos rfl, if_pos rfl, if_pos (by omega)]
        rfl
      · rw [if_neg (by omega), if_neg e]
        cases D[j.toNat]? with
        | none => rfl
        | some x => rfl
    · rw [if_neg h0, if_neg h0]
      split <;> rfl
theorem atD_in {D : Dm} {k : Int} {l : List By} (h : atD D k = some l) : 0 ≤ k ∧ k < D.length := by
  unfold atD at h
  split at h
  · rename_i h0
    refine ⟨h0, ?_⟩
    by_cases hl : k.toNat < D.length
    · omega
    · rw [List.getD_eq_getElem?_getD, List.getElem?_eq_none (by omega)] at h; cases h
  · cases h
theorem free_self (D : Dm) (k : Int) : atD (dFree D k) k = none := by
  rw [atD_free D k k (by cases h : atD D k with | none => exact .inr rfl | some l => exact .inl (atD_in h)), if_pos rfl]
theorem free_bytes (D : Dm) (k j : Int) (hj : j ≠ k) : dBytes (dFree D k) j = if 0 ≤ dSize D k then (dBytes D j).map (lostTo k) else dBytes D j := by
  unfold dBytes dSize
  rw [atD_free D k j (by cases h : atD D k with | none => exact .inr rfl | some l => exact .inl (atD_in h)), if_neg hj]
  cases h : atD D k with
  | none => rw [if_neg (by show ¬ (0 : Int) ≤ -1; decide)]
  | some l =>
    rw [if_pos (by show (0 : Int) ≤ (l.length : Int); omega)]
    cases atD D j <;> rfl
end Go.Proofs.Ytkbkgbkoplcgeaa
