/- The document's rows of instructions and places (package latheref02), read. -/
import Derived.Test.YtpfeiolmkbibiaaIrO
namespace Go.Proofs.Ytpfeiolmkbibiaa
open Go.RowKit Go.Maps
set_option linter.unusedVariables false
set_option linter.unusedSimpArgs false

theorem add0 (g j : Nat) : (⟨g, 0, none⟩ : Addr).add j = ⟨g, j, none⟩ := by
  unfold Addr.add
  by_cases hj : j = 0
  · subst hj; rfl
  · rw [if_neg hj]; simp
theorem flat_get {α : Type} (f : α → List Value) (m : Nat) (hf : ∀ x, (f x).length = m) (L : List α) : ∀ (i : Nat) (h : i < L.length) (j : Nat), j < m → (L.flatMap f)[i * m + j]? = (f L[i])[j]? := by
  induction L with
  | nil => intro i h; exact absurd h (Nat.not_lt_zero _)
  | cons x L ih =>
    intro i h j hj
    rw [List.flatMap_cons]
    cases i with
    | zero => rw [List.getElem?_append_left (by rw [hf]; omega)]; simp
    | succ i =>
      have e : (i + 1) * m + j = m + (i * m + j) := by rw [Nat.add_mul]; omega
      rw [List.getElem?_append_right (by rw [hf]; omega), hf, e, Nat.add_sub_cancel_left]
      exact ih i (by simpa using h) j hj
/-- The row of instructions is a list of instructions in memory. -/
theorem codeAt_own {w : World} {B : Nat} {vl : Value} {L : List Ins} (h : w.ownsRow B 25 7 vl L.length (L.flatMap insC)) : CodeAt w.heap.size w vl L := by
  rcases id h.2 with ⟨rfl, h0⟩ | ⟨g, cap, cur, rfl, hg, hh, h1, h2, _, _⟩
  · refine ⟨none, 0, by rw [h0], by omega, by decide, fun i hi => ?_⟩
    omega
  · refine ⟨some ⟨g, 0, none⟩, cap, rfl, h1, h2, fun i hi => ⟨⟨g, 0, none⟩, rfl, (Array.getElem?_eq_some_iff.1 hh).1, ?_⟩⟩
    have c : ∀ j, j < 7 → w.cell? ⟨g, i * 7 + j, none⟩ = (insC L[i])[j]? := fun j hj => by
      rw [h.cellAt (i * 7 + j) (by omega)]
      exact flat_get insC 7 (fun _ => rfl) L i hi j hj
    rw [add0]
    exact ⟨c 0 (by decide), c 1 (by decide), c 2 (by decide), c 3 (by decide), c 4 (by decide), c 5 (by decide), c 6 (by decide)⟩
/-- All places, in order. -/
def places (l : List (List Ins)) : List (Nat × Nat) := (List.range l.length).flatMap fun i => (List.range (l.getD i []).length).map fun k => (i, k)
theorem placesC_eq (l : List (List Ins)) : placesC l l.length 0 = (places l).flatMap fun q => plC q.1 q.2 := by
  unfold placesC places
  rw [List.flatMap_assoc]
  simp only [List.range_zero, List.flatMap_nil, List.append_nil]
  congr 1
  funext i
  rw [List.flatMap_map]
def PlAt (B : Nat) (w : World) (s : Value) (l : List (Nat × Nat)) : Prop :=
  ∃ (p : Option Addr) (cap : Nat), s = .slice p l.length cap ∧ ∀ i (h : i < l.length), ∃ a, p = some a ∧ a.block < B ∧ w.cell? (a.add (i * 3)) = some (.int .i64 0) ∧ w.cell? ⟨(a.add (i * 3)).block, (a.add (i * 3)).off + 1, none⟩ = some (.int .i64 l[i].1) ∧ w.cell? ⟨(a.add (i * 3)).block, (a.add (i * 3)).off + 2, none⟩ = some (.int .i64 l[i].2)
theorem plAt_own {w : World} {B : Nat} {vp : Value} {L : List (Nat × Nat)} (h : w.ownsRow B 47 3 vp L.length (L.flatMap fun q => plC q.1 q.2)) : PlAt w.heap.size w vp L := by
  rcases id h.2 with ⟨rfl, h0⟩ | ⟨g, cap, cur, rfl, hg, hh, h1, h2, _, _⟩
  · refine ⟨none, 0, by rw [h0], fun i hi => ?_⟩
    omega
  · refine ⟨some ⟨g, 0, none⟩, cap, rfl, fun i hi => ⟨⟨g, 0, none⟩, rfl, (Array.getElem?_eq_some_iff.1 hh).1, ?_⟩⟩
    have c : ∀ j, j < 3 → w.cell? ⟨g, i * 3 + j, none⟩ = (plC L[i].1 L[i].2)[j]? := fun j hj => by
      rw [h.cellAt (i * 3 + j) (by omega)]
      exact flat_get (fun q : Nat × Nat => plC q.1 q.2) 3 (fun _ => rfl) L i hi j hj
    rw [add0]
    exact ⟨c 0 (by decide), c 1 (by decide), c 2 (by decide)⟩
theorem AllArgs.flat {B : Nat} {W : World} {l : List (List Ins)} (h : AllArgs B W l) : ∀ i (hi : i < l.flatten.length), ArgsAt B W l.flatten[i] := fun i hi => by
  obtain ⟨c, hc, hd⟩ := List.mem_flatten.1 (List.getElem_mem hi)
  obtain ⟨b, hb, e1⟩ := List.mem_iff_getElem.1 hc
  obtain ⟨k, hk, e2⟩ := List.mem_iff_getElem.1 hd
  subst e1
  rw [← e2]
  exact h b hb k hk
theorem codeAt_flat {w : World} {B : Nat} {vl : Value} {l : List (List Ins)} {L : List Ins} (e : l.flatten = L) (h : w.ownsRow B 25 7 vl l.flatten.length (l.flatten.flatMap insC)) : CodeAt w.heap.size w vl L := by
  subst e; exact codeAt_own h
theorem AllArgs.flatL {B : Nat} {W : World} {l : List (List Ins)} {L : List Ins} (e : l.flatten = L) (h : AllArgs B W l) : ∀ i (hi : i < L.length), ArgsAt B W L[i] := by
  subst e; exact h.flat
theorem usesOf_cons (r : Int) (L : List Ins) (i : Nat) (h : i < L.length) : usesOf r (L.take (i + 1)) = usesOf r (L.take i) + usesIn r L[i].args := by rw [List.take_succ_eq_append_getElem h, usesOf_snoc]
theorem argsNum_cons (L : List Ins) (i : Nat) (h : i < L.length) : argsNum (L.take i) + L[i].args.length ≤ argsNum L := by
  have e : L = L.take i ++ ([L[i]] ++ L.drop (i + 1)) := by rw [List.singleton_append, List.getElem_cons_drop, List.take_append_drop]
  have e2 := congrArg argsNum e
  rw [argsNum_app, argsNum_app] at e2
  have e3 : argsNum [L[i]] = L[i].args.length := by simp [argsNum]
  omega
end Go.Proofs.Ytpfeiolmkbibiaa
