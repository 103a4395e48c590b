/- Dominance as lists: what the loops over nearest dominators, trees and frontiers have so far; a tree of parents whose ancestors are the dominators. No program here. -/
import Derived.Test.YtphdhndljgihmaaDClimb
namespace Go.Proofs.Ytphdhndljgihmaa
set_option linter.unusedVariables false
set_option linter.unusedSimpArgs false

/-- Nearest, as it is told over numbers below n. -/
theorem isUp_iff {S : Nat → List Nat} {n : Nat} (hn : 0 < n) (hS : ∀ b, ∀ t ∈ S b, t < n) {a b : Nat} : IsUp S b a ↔ a ≠ b ∧ Dm S a b ∧ ∀ c, c < n → c ≠ b → Dm S c b → Dm S c a :=
  ⟨fun h => ⟨h.1, h.2.1, fun c _ => h.2.2 c⟩, fun h => ⟨h.1, h.2.1, fun c hc hd => h.2.2 c (rch_lt hn hS hd.1) hc hd⟩⟩
theorem upI_lt {S : Nat → List Nat} {n : Nat} (hn : 0 < n) (hS : ∀ b, ∀ t ∈ S b, t < n) (b : Nat) : -1 ≤ upI S b ∧ upI S b < (n : Int) := by
  rcases upI_cases S b with ⟨u, hu, e⟩ | ⟨_, e⟩
  · have := rch_lt hn hS hu.2.1.1
    omega
  · omega
/-- It has a nearest dominator just if ways come to it and it is not block 0. -/
theorem upI_nat {S : Nat → List Nat} {n : Nat} (hn : 0 < n) (hS : ∀ b, ∀ t ∈ S b, t < n) (b : Nat) : 0 ≤ upI S b ↔ Rch S b ∧ b ≠ 0 := by
  rcases upI_cases S b with ⟨u, hu, e⟩ | ⟨hno, e⟩
  · refine ⟨fun _ => ⟨hu.rch, fun e0 => ?_⟩, fun _ => by omega⟩
    subst e0; exact hu.not_zero
  · refine ⟨fun h => by omega, fun ⟨h1, h2⟩ => ?_⟩
    obtain ⟨u, hu⟩ := IsUp.ex hn hS h1 h2
    exact absurd hu (hno u)
open Classical in
/-- The nearest dominator among the blocks below k; -1: none. -/
noncomputable def upTo (S : Nat → List Nat) (b k : Nat) : Int := if ∃ u, u < k ∧ IsUp S b u then upI S b else -1
theorem upTo_0 (S : Nat → List Nat) (b : Nat) : upTo S b 0 = -1 := by
  unfold upTo
  rw [if_neg fun ⟨u, h, _⟩ => Nat.not_lt_zero _ h]
theorem upTo_yes {S : Nat → List Nat} {b k : Nat} (h : IsUp S b k) : upTo S b (k + 1) = (k : Int) := by
  unfold upTo
  rw [if_pos ⟨k, Nat.lt_succ_self _, h⟩, upI_some h]
theorem upTo_no {S : Nat → List Nat} {b k : Nat} (h : ¬ IsUp S b k) : upTo S b (k + 1) = upTo S b k := by
  unfold upTo
  by_cases e : ∃ u, u < k ∧ IsUp S b u
  · obtain ⟨u, h1, h2⟩ := e
    rw [if_pos ⟨u, by omega, h2⟩, if_pos ⟨u, h1, h2⟩]
  · rw [if_neg e, if_neg]
    rintro ⟨u, h1, h2⟩
    by_cases eu : u = k
    · subst eu; exact h h2
    · exact e ⟨u, by omega, h2⟩
theorem upTo_end {S : Nat → List Nat} {n : Nat} (hn : 0 < n) (hS : ∀ b, ∀ t ∈ S b, t < n) (b : Nat) : upTo S b n = upI S b := by
  unfold upTo
  by_cases e : ∃ u, u < n ∧ IsUp S b u
  · rw [if_pos e]
  · rw [if_neg e, upI_none]
    exact fun u hu => e ⟨u, rch_lt hn hS hu.2.1.1, hu⟩

/-- The blocks below k whose nearest dominator is a. -/
noncomputable def kids (S : Nat → List Nat) (k a : Nat) : List Nat := (List.range k).filter fun x => decide (upI S x = (a : Int))
theorem kids_0 (S : Nat → List Nat) (a : Nat) : kids S 0 a = [] := rfl
theorem kids_succ (S : Nat → List Nat) (k a : Nat) : kids S (k + 1) a = kids S k a ++ if upI S k = (a : Int) then [k] else [] := by
  unfold kids
  rw [List.range_succ, List.filter_append]
  congr 1
  by_cases h : upI S k = (a : Int) <;> simp [h]
theorem mem_kids {S : Nat → List Nat} {k a x : Nat} : x ∈ kids S k a ↔ x < k ∧ IsUp S x a := by
  unfold kids
  rw [List.mem_filter, List.mem_range, decide_eq_true_eq, upI_iff]
theorem kids_len (S : Nat → List Nat) (k a : Nat) : (kids S k a).length ≤ k := by
  have := List.length_filter_le (fun x => decide (upI S x = (a : Int))) (List.range k)
  rw [List.length_range] at this
  exact this
theorem kids_rise (S : Nat → List Nat) (k a : Nat) : (kids S k a).Pairwise (· < ·) := List.Pairwise.filter _ List.pairwise_lt_range

/-- b is in the frontier of a. -/
def Fr (S : Nat → List Nat) (a b : Nat) : Prop := (∃ p, b ∈ S p ∧ Dm S a p) ∧ (a = b ∨ ¬ Dm S a b)
open Classical in
noncomputable def frB (S : Nat → List Nat) (a b : Nat) : Bool := decide (Fr S a b)
theorem frB_iff {S : Nat → List Nat} {a b : Nat} : frB S a b = true ↔ Fr S a b := by unfold frB; simp
/-- The frontier of a, of the blocks below k. -/
noncomputable def frUpto (S : Nat → List Nat) (k a : Nat) : List Nat := (List.range k).filter (frB S a)
theorem frUpto_0 (S : Nat → List Nat) (a : Nat) : frUpto S 0 a = [] := rfl
theorem frUpto_succ (S : Nat → List Nat) (k a : Nat) : frUpto S (k + 1) a = frUpto S k a ++ if frB S a k then [k] else [] := by
  unfold frUpto
  rw [List.range_succ, List.filter_append]
  congr 1
  cases h : frB S a k <;> simp [h]
theorem mem_frUpto {S : Nat → List Nat} {k a b : Nat} : b ∈ frUpto S k a ↔ b < k ∧ Fr S a b := by
  unfold frUpto
  rw [List.mem_filter, List.mem_range, frB_iff]
theorem frUpto_len (S : Nat → List Nat) (k a : Nat) : (frUpto S k a).length ≤ k := by
  have := List.length_filter_le (frB S a) (List.range k)
  rw [List.length_range] at this
  exact this
theorem frUpto_rise (S : Nat → List Nat) (k a : Nat) : (frUpto S k a).Pairwise (· < ·) := List.Pairwise.filter _ List.pairwise_lt_range
theorem frUpto_nodup (S : Nat → List Nat) (k a : Nat) : (frUpto S k a).Nodup := (frUpto_rise S k a).imp fun h => Nat.ne_of_lt h
/-- Frontiers, as going up from each predecessor tells them (Edge.ends). -/
theorem fr_edge {S : Nat → List Nat} {a b : Nat} : Fr S a b ↔ ∃ q, Rch S q ∧ b ∈ S q ∧ Dm S a q ∧ ¬ (a ≠ b ∧ Dm S a b) := by
  constructor
  · rintro ⟨⟨p, h1, h2⟩, h3⟩
    refine ⟨p, h2.2.1, h1, h2, fun ⟨h4, h5⟩ => ?_⟩
    rcases h3 with e | e
    · exact h4 e
    · exact e h5
  · rintro ⟨q, _, h1, h2, h3⟩
    refine ⟨⟨q, h1, h2⟩, ?_⟩
    by_cases e : a = b
    · exact .inl e
    · exact .inr fun h => h3 ⟨e, h⟩
theorem fr_rch {S : Nat → List Nat} {a b : Nat} (h : Fr S a b) : Rch S a ∧ Rch S b := by
  obtain ⟨⟨p, h1, h2⟩, _⟩ := h
  exact ⟨h2.1, Rch.step p b h2.2.1 h1⟩

/-- a is b, or its parent's parent's .. parent (block 0 has none). -/
inductive Anc (u : Nat → Nat) (a : Nat) : Nat → Prop
  | refl : Anc u a a
  | up (b) : b ≠ 0 → Anc u a (u b) → Anc u a b
theorem Anc.trans {u : Nat → Nat} {a b c : Nat} (h : Anc u a b) (k : Anc u b c) : Anc u a c := by
  induction k with
  | refl => exact h
  | up c h0 _ ih => exact Anc.up _ h0 ih
theorem Anc.parent {u : Nat → Nat} {b : Nat} (h : b ≠ 0) : Anc u (u b) b := Anc.up _ h Anc.refl
theorem Anc.strict {u : Nat → Nat} {a b : Nat} (h : Anc u a b) (hne : a ≠ b) : b ≠ 0 ∧ Anc u a (u b) := by
  cases h with
  | refl => exact absurd rfl hne
  | up _ h0 h1 => exact ⟨h0, h1⟩
theorem Anc.at_zero {u : Nat → Nat} {a : Nat} (h : Anc u a 0) : a = 0 := Classical.byContradiction fun e => (h.strict e).1 rfl
/-- Where each parent stands ahead, so does each ancestor. -/
theorem Anc.rank {u r : Nat → Nat} {P : Nat → Prop} (hP : ∀ b, P b → b ≠ 0 → P (u b) ∧ r (u b) < r b) {a b : Nat} (h : Anc u a b) (hb : P b) : P a ∧ r a ≤ r b ∧ (r a = r b → a = b) := by
  induction h with
  | refl => exact ⟨hb, Nat.le_refl _, fun _ => rfl⟩
  | up b h0 _ ih =>
    obtain ⟨h1, h2⟩ := hP b hb h0
    obtain ⟨k1, k2, k3⟩ := ih h1
    exact ⟨k1, by omega, fun e => by omega⟩
/-- If the parent of each block is an ancestor of each of its predecessors, ancestors dominate. -/
theorem Anc.dm {S : Nat → List Nat} {u : Nat → Nat} (hu : ∀ b, Rch S b → b ≠ 0 → Rch S (u b)) (hA : ∀ x t, Rch S x → t ∈ S x → t ≠ 0 → Anc u (u t) x) {a b : Nat} (h : Anc u a b) (hb : Rch S b) : Dm S a b := by
  have ra : Rch S a := by
    induction h with
    | refl => exact hb
    | up b h0 _ ih => exact ih (hu b hb h0)
  refine ⟨ra, hb, ?_⟩
  by_cases e : a = b
  · exact .inl e
  refine .inr fun m => ?_
  have key : ∀ x, Rch (cut S a) x → ¬ Anc u a x := by
    intro x hx
    induction hx with
    | zero => exact fun k => m.1 k.at_zero
    | step y t hy ht ih =>
      intro k
      obtain ⟨t1, t2⟩ := mem_cut.1 ht
      obtain ⟨k0, k1⟩ := k.strict fun e => t2 e.symm
      exact ih (k1.trans (hA y t (Miss.rch (g := a) ⟨m.1, hy⟩) t1 k0))
  exact key b m.2 h
/-- A tree of parents: if parents are ancestors of all predecessors and every dominator is an ancestor, parents are nearest dominators. -/
theorem Anc.isUp {S : Nat → List Nat} {u r : Nat → Nat} (hu : ∀ b, Rch S b → b ≠ 0 → Rch S (u b) ∧ r (u b) < r b) (hA : ∀ x t, Rch S x → t ∈ S x → t ≠ 0 → Anc u (u t) x) (hB : ∀ a b, Dm S a b → Anc u a b) {b : Nat} (hb : Rch S b) (h0 : b ≠ 0) : IsUp S b (u b) := by
  refine ⟨fun e => ?_, Anc.dm (fun b h k => (hu b h k).1) hA (Anc.parent h0) hb, fun c hc hd => ?_⟩
  · have := (hu b hb h0).2
    rw [e] at this
    exact Nat.lt_irrefl _ this
  · exact Anc.dm (fun b h k => (hu b h k).1) hA ((hB c b hd).strict hc).2 (hu b hb h0).1
/-- Two blocks going up till they meet: what the two have in common so far. -/
structure Meet (u : Nat → Nat) (a b x y : Nat) : Prop where
  left : Anc u x a
  right : Anc u y b
  all : ∀ c, Anc u c a → Anc u c b → Anc u c x ∧ Anc u c y
theorem Meet.start (u : Nat → Nat) (a b : Nat) : Meet u a b a b := ⟨Anc.refl, Anc.refl, fun c h k => ⟨h, k⟩⟩
theorem Meet.swap {u : Nat → Nat} {a b x y : Nat} (h : Meet u a b x y) : Meet u b a y x := ⟨h.right, h.left, fun c k l => ⟨(h.all c l k).2, (h.all c l k).1⟩⟩
theorem Meet.up {u r : Nat → Nat} {P : Nat → Prop} (hP : ∀ b, P b → b ≠ 0 → P (u b) ∧ r (u b) < r b) {a b x y : Nat} (h : Meet u a b x y) (hy : P y) (h0 : x ≠ 0) (hr : r y < r x) : Meet u a b (u x) y := by
  refine ⟨(Anc.parent h0).trans h.left, h.right, fun c k l => ?_⟩
  obtain ⟨m1, m2⟩ := h.all c k l
  refine ⟨(m1.strict fun e => ?_).2, m2⟩
  subst e
  have := (m2.rank hP hy).2.1
  omega
theorem Meet.done {u : Nat → Nat} {a b x : Nat} (h : Meet u a b x x) : Anc u x a ∧ Anc u x b ∧ ∀ c, Anc u c a → Anc u c b → Anc u c x := ⟨h.left, h.right, fun c k l => (h.all c k l).1⟩
end Go.Proofs.Ytphdhndljgihmaa
