/- Dominance as mathematics: a graph is its successors S, block 0 is where all ways begin. No program here. -/
import Derived.Test.YtphdhndljgihmaaPPure
namespace Go.Proofs.Ytphdhndljgihmaa
set_option linter.unusedVariables false
set_option linter.unusedSimpArgs false

/-- The graph with a block taken out. -/
def cut (S : Nat → List Nat) (g b : Nat) : List Nat := (S b).filter fun t => t != g
theorem mem_cut {S : Nat → List Nat} {g b t : Nat} : t ∈ cut S g b ↔ t ∈ S b ∧ t ≠ g := by simp [cut]
/-- Some way comes to x and misses g. -/
def Miss (S : Nat → List Nat) (g x : Nat) : Prop := g ≠ 0 ∧ Rch (cut S g) x
theorem Miss.zero {S : Nat → List Nat} {g : Nat} (h : g ≠ 0) : Miss S g 0 := ⟨h, Rch.zero⟩
theorem Miss.step {S : Nat → List Nat} {g a t : Nat} (h : Miss S g a) (ht : t ∈ S a) (hg : t ≠ g) : Miss S g t := ⟨h.1, Rch.step a t h.2 (mem_cut.2 ⟨ht, hg⟩)⟩
theorem Miss.rch {S : Nat → List Nat} {g x : Nat} (h : Miss S g x) : Rch S x := by
  obtain ⟨_, h⟩ := h
  induction h with
  | zero => exact Rch.zero
  | step a t _ ht ih => exact Rch.step a t ih (mem_cut.1 ht).1
theorem Miss.ne {S : Nat → List Nat} {g x : Nat} (h : Miss S g x) : x ≠ g := by
  obtain ⟨h0, h⟩ := h
  cases h with
  | zero => exact fun e => h0 e.symm
  | step a t _ ht => exact (mem_cut.1 ht).2
/-- a dominates b. -/
def Dm (S : Nat → List Nat) (a b : Nat) : Prop := Rch S a ∧ Rch S b ∧ (a = b ∨ ¬ Miss S a b)
theorem Dm.refl {S : Nat → List Nat} {a : Nat} (h : Rch S a) : Dm S a a := ⟨h, h, .inl rfl⟩
theorem Dm.zero {S : Nat → List Nat} {b : Nat} (h : Rch S b) : Dm S 0 b := ⟨Rch.zero, h, .inr fun k => k.1 rfl⟩
theorem Dm.at_zero {S : Nat → List Nat} {a : Nat} (h : Dm S a 0) : a = 0 := by
  rcases h.2.2 with h | h
  · exact h
  · rcases Nat.eq_zero_or_pos a with e | e
    · exact e
    · exact absurd (Miss.zero (by omega)) h
theorem Dm.trans {S : Nat → List Nat} {a b c : Nat} (h : Dm S a b) (k : Dm S b c) : Dm S a c := by
  refine ⟨h.1, k.2.1, ?_⟩
  rcases h.2.2 with e | h2
  · subst e; exact k.2.2
  rcases k.2.2 with e | k2
  · subst e; exact .inr h2
  refine .inr fun m => ?_
  have key : ∀ x, Rch (cut S a) x → x = b ∨ Miss S a b ∨ Miss S b x := by
    intro x hx
    induction hx with
    | zero =>
      rcases Nat.eq_zero_or_pos b with e | e
      · exact .inl e.symm
      · exact .inr (.inr (Miss.zero (by omega)))
    | step y t hy ht ih =>
      by_cases e : t = b
      · exact .inl e
      rcases ih with e2 | h3 | h3
      · exact .inr (.inl (e2 ▸ ⟨m.1, hy⟩))
      · exact .inr (.inl h3)
      · exact .inr (.inr (h3.step (mem_cut.1 ht).1 e))
  rcases key c m.2 with e | h3 | h3
  · exact h2 (e ▸ m)
  · exact h2 h3
  · exact k2 h3
theorem Dm.antisymm {S : Nat → List Nat} {a b : Nat} (h : Dm S a b) (k : Dm S b a) : a = b := by
  apply Classical.byContradiction
  intro hne
  have h2 : ¬ Miss S a b := h.2.2.resolve_left hne
  have k2 : ¬ Miss S b a := k.2.2.resolve_left fun e => hne e.symm
  have a0 : a ≠ 0 := fun e => hne (e.trans (by subst e; exact k.at_zero.symm))
  have b0 : b ≠ 0 := fun e => hne (by subst e; exact h.at_zero)
  have key : ∀ x, Rch S x → Miss S a x ∧ Miss S b x := by
    intro x hx
    induction hx with
    | zero => exact ⟨Miss.zero a0, Miss.zero b0⟩
    | step y t hy ht ih =>
      refine ⟨ih.1.step ht fun e => ?_, ih.2.step ht fun e => ?_⟩
      · exact k2 (by rw [← e]; exact ih.2.step ht fun e2 => hne (e.symm.trans e2))
      · exact h2 (by rw [← e]; exact ih.1.step ht fun e2 => hne (e2.symm.trans e))
  exact (key a h.1).1.ne rfl
theorem Dm.linear {S : Nat → List Nat} {a b c : Nat} (h : Dm S a c) (k : Dm S b c) : Dm S a b ∨ Dm S b a := by
  by_cases hab : a = b
  · subst hab; exact .inl (Dm.refl h.1)
  by_cases m1 : Miss S a b
  · by_cases m2 : Miss S b a
    · exfalso
      have key : ∀ x, Rch S x → x = a ∨ x = b ∨ Miss S a x ∨ Miss S b x := by
        intro x hx
        induction hx with
        | zero =>
          rcases Nat.eq_zero_or_pos a with e | e
          · exact .inl e.symm
          · exact .inr (.inr (.inl (Miss.zero (by omega))))
        | step y t hy ht ih =>
          by_cases ea : t = a
          · exact .inl ea
          by_cases eb : t = b
          · exact .inr (.inl eb)
          rcases ih with e | e | e | e
          · exact .inr (.inr (.inr ((e ▸ m2 : Miss S b y).step ht eb)))
          · exact .inr (.inr (.inl ((e ▸ m1 : Miss S a y).step ht ea)))
          · exact .inr (.inr (.inl (e.step ht ea)))
          · exact .inr (.inr (.inr (e.step ht eb)))
      have hca : c ≠ a := fun e => by
        rcases k.2.2 with e2 | e2
        · exact hab (e.symm.trans e2.symm)
        · exact e2 (e ▸ m2)
      have hcb : c ≠ b := fun e => by
        rcases h.2.2 with e2 | e2
        · exact hab (e2.trans e)
        · exact e2 (e ▸ m1)
      rcases key c h.2.1 with e | e | e | e
      · exact hca e
      · exact hcb e
      · exact (h.2.2.resolve_left fun e2 => hca e2.symm) e
      · exact (k.2.2.resolve_left fun e2 => hcb e2.symm) e
    · exact .inr ⟨k.1, h.1, .inr m2⟩
  · exact .inl ⟨h.1, k.1, .inr m1⟩
/-- What dominates a block strictly dominates each of its predecessors that ways come to. -/
theorem Dm.pred {S : Nat → List Nat} {u b p : Nat} (h : Dm S u b) (hne : u ≠ b) (hp : Rch S p) (hb : b ∈ S p) : Dm S u p := by
  by_cases e : u = p
  · subst e; exact Dm.refl hp
  · exact ⟨h.1, hp, .inr fun m => (h.2.2.resolve_left hne) (m.step hb fun e2 => hne e2.symm)⟩
/-- What dominates all predecessors that ways come to dominates the block. -/
theorem Dm.of_preds {S : Nat → List Nat} {u b : Nat} (hb : Rch S b) (hb0 : b ≠ 0) (hu : Rch S u) (h : ∀ p, Rch S p → b ∈ S p → Dm S u p) : Dm S u b := by
  refine ⟨hu, hb, ?_⟩
  by_cases e : u = b
  · exact .inl e
  refine .inr fun m => ?_
  obtain ⟨h0, m⟩ := m
  cases m with
  | zero => exact hb0 rfl
  | step y t hy ht =>
    have my : Miss S u y := ⟨h0, hy⟩
    have d := h y my.rch (mem_cut.1 ht).1
    rcases d.2.2 with e2 | e2
    · exact my.ne e2.symm
    · exact e2 my

/-- u is b's nearest dominator. -/
def IsUp (S : Nat → List Nat) (b u : Nat) : Prop := u ≠ b ∧ Dm S u b ∧ ∀ c, c ≠ b → Dm S c b → Dm S c u
theorem IsUp.unique {S : Nat → List Nat} {b u v : Nat} (h : IsUp S b u) (k : IsUp S b v) : u = v := (k.2.2 u h.1 h.2.1).antisymm (h.2.2 v k.1 k.2.1)
theorem IsUp.not_zero {S : Nat → List Nat} {u : Nat} (h : IsUp S 0 u) : False := h.1 h.2.1.at_zero
theorem IsUp.rch {S : Nat → List Nat} {b u : Nat} (h : IsUp S b u) : Rch S b := h.2.1.2.1
theorem greatest {S : Nat → List Nat} {b : Nat} : ∀ l : List Nat, l ≠ [] → (∀ x ∈ l, Dm S x b) → ∃ u ∈ l, ∀ c ∈ l, Dm S c u
  | [], h, _ => absurd rfl h
  | [x], _, h => ⟨x, List.mem_singleton.2 rfl, fun c hc => by obtain rfl := List.mem_singleton.1 hc; exact Dm.refl (h c hc).1⟩
  | x :: y :: l, _, h => by
    obtain ⟨u, hu, hg⟩ := greatest (y :: l) (by simp) (fun z hz => h z (List.mem_cons_of_mem _ hz))
    rcases (h x (List.mem_cons_self ..)).linear (h u (List.mem_cons_of_mem _ hu)) with d | d
    · exact ⟨u, List.mem_cons_of_mem _ hu, fun c hc => by
        rcases List.mem_cons.1 hc with rfl | hc
        · exact d
        · exact hg c hc⟩
    · exact ⟨x, List.mem_cons_self .., fun c hc => by
        rcases List.mem_cons.1 hc with rfl | hc
        · exact Dm.refl d.2.1
        · exact (hg c hc).trans d⟩
theorem rch_lt {S : Nat → List Nat} {n : Nat} (hn : 0 < n) (hS : ∀ b, ∀ t ∈ S b, t < n) {x : Nat} (h : Rch S x) : x < n := by
  cases h with
  | zero => exact hn
  | step a t _ ht => exact hS a x ht
open Classical in
theorem IsUp.ex {S : Nat → List Nat} {n : Nat} (hn : 0 < n) (hS : ∀ b, ∀ t ∈ S b, t < n) {b : Nat} (hb : Rch S b) (h0 : b ≠ 0) : ∃ u, IsUp S b u := by
  obtain ⟨u, hu, hg⟩ := greatest (S := S) (b := b) ((List.range n).filter fun c => decide (c ≠ b ∧ Dm S c b)) (fun e => by
    have : 0 ∈ (List.range n).filter fun c => decide (c ≠ b ∧ Dm S c b) := by
      rw [List.mem_filter]
      exact ⟨List.mem_range.2 hn, decide_eq_true ⟨fun e => h0 e.symm, Dm.zero hb⟩⟩
    rw [e] at this
    simp at this) (fun x hx => (of_decide_eq_true (List.mem_filter.1 hx).2).2)
  have h1 := of_decide_eq_true (List.mem_filter.1 hu).2
  refine ⟨u, h1.1, h1.2, fun c hc hd => hg c ?_⟩
  rw [List.mem_filter]
  exact ⟨List.mem_range.2 (rch_lt hn hS hd.1), decide_eq_true ⟨hc, hd⟩⟩
open Classical in
/-- The nearest dominator; -1: none. -/
noncomputable def upI (S : Nat → List Nat) (b : Nat) : Int := if h : ∃ u, IsUp S b u then ((Classical.choose h : Nat) : Int) else -1
theorem upI_some {S : Nat → List Nat} {b u : Nat} (h : IsUp S b u) : upI S b = (u : Int) := by
  unfold upI
  have hx : ∃ u, IsUp S b u := ⟨u, h⟩
  rw [dif_pos hx, (Classical.choose_spec hx).unique h]
theorem upI_none {S : Nat → List Nat} {b : Nat} (h : ∀ u, ¬ IsUp S b u) : upI S b = -1 := by
  unfold upI
  rw [dif_neg fun ⟨u, hu⟩ => h u hu]
theorem upI_cases (S : Nat → List Nat) (b : Nat) : (∃ u, IsUp S b u ∧ upI S b = (u : Int)) ∨ ((∀ u, ¬ IsUp S b u) ∧ upI S b = -1) := by
  by_cases h : ∃ u, IsUp S b u
  · obtain ⟨u, hu⟩ := h
    exact .inl ⟨u, hu, upI_some hu⟩
  · exact .inr ⟨fun u hu => h ⟨u, hu⟩, upI_none fun u hu => h ⟨u, hu⟩⟩
theorem upI_iff {S : Nat → List Nat} {b u : Nat} : upI S b = (u : Int) ↔ IsUp S b u := by
  rcases upI_cases S b with ⟨v, hv, e⟩ | ⟨hn, e⟩
  · rw [e]
    constructor
    · intro k
      obtain rfl : v = u := by omega
      exact hv
    · intro k; rw [hv.unique k]
  · rw [e]
    constructor
    · intro k; omega
    · intro k; exact absurd k (hn u)
end Go.Proofs.Ytphdhndljgihmaa
