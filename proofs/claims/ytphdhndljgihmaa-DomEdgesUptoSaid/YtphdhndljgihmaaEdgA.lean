/- The law DomEdges: what its loop of going up leaves, and a row of maps of one's own. -/
import Derived.Test.YtphdhndljgihmaaFrA
import Derived.Maps.OwnSet
import Derived.Maps.OwnOps
namespace Go.Proofs.Ytphdhndljgihmaa
open Go.RowKit Go.Maps
set_option linter.unusedVariables false
set_option linter.unusedSimpArgs false

theorem FrJ.edge {S : Nat → List Nat} {n b q i : Nat} {x : Int} {P : List Nat} {V : Nat → Prop} (hn : 0 < n) (hS : ∀ b, ∀ t ∈ S b, t < n) (h : Edge S n b q i x V) (hq : Rch S q) (hb : b ∈ S q)
    (hx : x < 0 ∨ x = upI S b) (a : Nat) : FrJ S b (P ++ [q]) a ↔ FrJ S b P a ∨ V a := by
  have hbr : Rch S b := Rch.step q b hq hb
  rw [Edge.ends hn hS h hx hbr a]
  unfold FrJ
  constructor
  · rintro ⟨y, hy, h1, h2⟩
    rcases List.mem_append.1 hy with h | h
    · exact .inl ⟨y, h, h1, h2⟩
    · rw [List.mem_singleton] at h
      subst h
      exact .inr h2
  · rintro (⟨y, hy, h⟩ | h)
    · exact ⟨y, List.mem_append_left _ hy, h⟩
    · exact ⟨q, by simp, hq, h⟩
theorem Edge.at {S : Nat → List Nat} {n b q i : Nat} {x : Int} {V : Nat → Prop} (hn : 0 < n) (hS : ∀ b, ∀ t ∈ S b, t < n) (h : Edge S n b q i x V) (hx : 0 ≤ x) : ∃ y : Nat, x = (y : Int) ∧ y < n ∧ i ≤ n := by
  refine ⟨x.toNat, by omega, ?_, ?_⟩
  · exact rch_lt hn hS (h.dom x.toNat (by omega)).1
  · have := h.cnt x.toNat (by omega)
    omega
open Classical in
theorem frRow_again {S : Nat → List Nat} {b x : Nat} {Q : Nat → Prop} (hx : Q x) (a : Nat) : frRow S b (fun y => Q y ∨ y = x) a = frRow S b Q a :=
  frRow_congr ⟨fun h => h.elim id (fun e => by rw [e]; exact hx), .inl⟩
theorem mem_frRow {S : Nat → List Nat} {b x : Nat} {Q : Nat → Prop} : b ∈ frRow S b Q x ↔ Q x := by
  unfold frRow
  have h0 : b ∉ frUpto S b x := fun h => Nat.lt_irrefl _ (mem_frUpto.1 h).1
  by_cases h : Q x
  · simp [h]
  · simp [h, h0]
/-- The map has just the numbers of L, each with 1. -/
def SeenN (D : DataW Unit) (L : List Nat) : Prop := (∀ x : Nat, D.atKey (.int .i64 x) (.lit (.int .i64 0)) = .lit (.int .i64 (if x ∈ L then 1 else 0))) ∧ (∀ x : Nat, Maps.has D (.int .i64 x) = decide (x ∈ L)) ∧ Maps.size D = L.length
theorem SeenN.nil : SeenN (.map []) [] := ⟨fun x => rfl, fun x => by simp [Maps.has], rfl⟩
theorem SeenN.put {D : DataW Unit} {L : List Nat} (h : SeenN D L) (ht : Tidy D) (b : Nat) : SeenN (D.put (.int .i64 b) (.lit (.int .i64 1))) (if b ∈ L then L else L ++ [b]) := by
  obtain ⟨h1, h2, h3⟩ := h
  refine ⟨fun x => ?_, fun x => ?_, ?_⟩
  · by_cases e : x = b
    · subst e
      rw [atKey_put_same (k := .int .i64 x) ht.isMap trivial]
      by_cases hm : x ∈ L <;> simp [hm]
    · rw [atKey_put_other (by intro k; injection k with _ k; exact e (by omega)), h1 x]
      by_cases hm : b ∈ L <;> simp [hm, e]
  · by_cases e : x = b
    · subst e
      rw [has_put_same (k := .int .i64 x) ht.isMap trivial]
      by_cases hm : x ∈ L <;> simp [hm]
    · rw [has_put_other (by intro k; injection k with _ k; exact e (by omega)), h2 x]
      by_cases hm : b ∈ L <;> simp [hm, e]
  · rw [size_put ht, h2 b, h3]
    by_cases hm : b ∈ L <;> simp [hm]
theorem ownsMap_tight {P : Program} {k : TypeId} {R : Value → Option (DataW Unit × List MemPlace)} {w : World} {b n : Nat} {D : DataW Unit} (h : w.ownsMap P k R b n D) : w.ownsMap P k R b (Maps.size D) D := by
  obtain ⟨es, clock, hb, F, hs, rfl⟩ := h
  exact ⟨es, clock, hb, F, by simp [Maps.size, length_sorted], rfl⟩
/-- A row of maps of one's own: c of n are there. -/
structure WM (R n c : Nat) (Mk : Nat → Nat) (Q : Nat → List Nat) (w : World) : Prop where
  row : w.rowIs R 42 n (fun i => if i < c then .map (some (Mk i)) else .map none)
  up : ∀ i, i < c → R < Mk i
  each : ∀ i, i < c → ∃ D, w.ownsMap Try.prog 3 (plainElem Try.prog 3) (Mk i) (Q i).length D ∧ SeenN D (Q i)
  ap : ∀ i j, i < j → j < c → Mk i < Mk j
section
variable {R n c : Nat} {Mk : Nat → Nat} {Q : Nat → List Nat} {w w' : World}
theorem WM.kept {row : Option Nat} (h : WM R n c Mk Q w) (hg : w.grownBy w' row) (h0 : some R ≠ row) (h1 : ∀ i, i < c → some (Mk i) ≠ row) : WM R n c Mk Q w' :=
  ⟨rowIs_kept h.row hg h0, h.up, fun i hi => by
    obtain ⟨D, hD, hs⟩ := h.each i hi
    exact ⟨D, hD.kept hg (h1 i hi), hs⟩, h.ap⟩
theorem WM.later (h : WM R n c Mk Q w) (hb : Below w.heap.size w w') : WM R n c Mk Q w' := h.kept (row := none) (below_grown hb) (by simp) (fun _ _ => by simp)
theorem WM.congr {Q' : Nat → List Nat} (h : WM R n c Mk Q w) (e : ∀ i, i < c → Q i = Q' i) : WM R n c Mk Q' w :=
  ⟨h.row, h.up, fun i hi => by rw [← e i hi]; exact h.each i hi, h.ap⟩
theorem WM.new (w : World) (n : Nat) (Mk : Nat → Nat) (Q : Nat → List Nat) : WM w.heap.size n 0 Mk Q (w.alloc (.cells (madeCells #[.map none] n) 42)) :=
  ⟨(World.rowIs_made w (.map none) n _).congr (fun i hi => by simp), fun i hi => absurd hi (Nat.not_lt_zero _), fun i hi => absurd hi (Nat.not_lt_zero _), fun i j _ hj => absurd hj (Nat.not_lt_zero _)⟩
theorem WM.lt (h : WM R n c Mk Q w) {i : Nat} (hi : i < c) : Mk i < w.heap.size := by
  obtain ⟨D, hD, _⟩ := h.each i hi
  exact hD.lt
theorem WM.snoc (h : WM R n c Mk Q w) (hk : c < n) (hQ : Q c = []) : WM R n (c + 1) (fun i => if i = c then w.heap.size else Mk i) Q ((w.alloc (.map #[] 0)).setCell ⟨R, c, none⟩ (.map (some w.heap.size))) := by
  have h1 := h.later ((Below.refl _ _).alloc (Nat.le_refl _) (.map #[] 0))
  have hr := h.row.lt
  refine ⟨(h1.row.set c _).congr (fun i hi => ?_), fun i hi => ?_, fun i hi => ?_, fun i j hij hj => ?_⟩
  · by_cases e : i = c
    · subst e; simp
    · rw [if_neg e]
      by_cases e2 : i < c
      · rw [if_pos e2, if_pos (by omega), if_neg e]
      · rw [if_neg e2, if_neg (by omega)]
  · by_cases e : i = c
    · simp only [if_pos e]; exact hr
    · simp only [if_neg e]; exact h.up i (by omega)
  · by_cases e : i = c
    · simp only [if_pos e]
      subst e
      rw [hQ]
      exact ⟨.map [], (World.ownsMap_made w _ _ _).setCell (by dsimp only; omega) _, SeenN.nil⟩
    · simp only [if_neg e]
      obtain ⟨D, hD, hs⟩ := h1.each i (by omega)
      have := h.up i (by omega)
      exact ⟨D, hD.setCell (by dsimp only; omega) _, hs⟩
  · by_cases e : j = c
    · have ei : ¬ i = c := by omega
      simp only [if_pos e, if_neg ei]
      exact h.lt (by omega)
    · have ei : ¬ i = c := by omega
      simp only [if_neg e, if_neg ei]
      exact h.ap i j hij (by omega)
theorem WM.ne (h : WM R n c Mk Q w) {i j : Nat} (hi : i < c) (hj : j < c) (hne : i ≠ j) : Mk i ≠ Mk j := by
  rcases Nat.lt_or_gt_of_ne hne with e | e
  · have := h.ap i j e hj; omega
  · have := h.ap j i e hi; omega
theorem WM.put (h : WM R n c Mk Q w) {x b : Nat} (hx : x < c) {k : Nat} {D D' : DataW Unit} (hs : SeenN D (Q x)) (ht : Tidy D) (hD : D' = D.put (.int .i64 b) (.lit (.int .i64 1))) (hm : w'.ownsMap Try.prog 3 (plainElem Try.prog 3) (Mk x) k D') (hg : w.grownBy w' (some (Mk x))) :
    WM R n c Mk (fun i => if i = x then (if b ∈ Q x then Q x else Q x ++ [b]) else Q i) w' := by
  subst hD
  have hu := h.up x hx
  refine ⟨rowIs_kept h.row hg (by simp; omega), h.up, fun i hi => ?_, h.ap⟩
  by_cases e : i = x
  · subst e
    simp only [if_pos]
    have h2 := hs.put ht b
    refine ⟨_, ?_, h2⟩
    have h3 := ownsMap_tight hm
    rw [h2.2.2] at h3
    exact h3
  · simp only [if_neg e]
    obtain ⟨D2, hD2, hs2⟩ := h.each i hi
    have := h.ne hi hx e
    exact ⟨D2, hD2.kept hg (by simp; exact this), hs2⟩
end
end Go.Proofs.Ytphdhndljgihmaa
