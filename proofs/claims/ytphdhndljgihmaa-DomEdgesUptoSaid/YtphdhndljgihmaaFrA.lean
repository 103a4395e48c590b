/- Package dom: Frontier: its loop of going up, with what stands already; endsWith. -/
import Derived.Test.YtphdhndljgihmaaDList
import Derived.Test.YtphdhndljgihmaaGPreB
import Derived.Test.YtphdhndljgihmaaGPairs
namespace Go.Proofs.Ytphdhndljgihmaa
open Go.RowKit Go.Maps
set_option linter.unusedVariables false
set_option linter.unusedSimpArgs false

/-- b is put into the frontier of a by one of these predecessors. -/
def FrJ (S : Nat → List Nat) (b : Nat) (P : List Nat) (a : Nat) : Prop := ∃ q ∈ P, Rch S q ∧ Dm S a q ∧ ¬ (a ≠ b ∧ Dm S a b)
theorem FrJ.nil {S : Nat → List Nat} {b a : Nat} : ¬ FrJ S b [] a := fun ⟨q, h, _⟩ => by simp at h
theorem FrJ.skip {S : Nat → List Nat} {b a q : Nat} {P : List Nat} (hq : ¬ Rch S q) : FrJ S b (P ++ [q]) a ↔ FrJ S b P a := by
  unfold FrJ
  constructor
  · rintro ⟨x, hx, h1, h2⟩
    rcases List.mem_append.1 hx with h | h
    · exact ⟨x, h, h1, h2⟩
    · rw [List.mem_singleton] at h
      subst h
      exact absurd h1 hq
  · rintro ⟨x, hx, h⟩
    exact ⟨x, List.mem_append_left _ hx, h⟩
theorem FrJ.all {S : Nat → List Nat} {n b a : Nat} (hn : ∀ x, b ∈ S x → Rch S x → x < n) : FrJ S b (predUpto S n b) a ↔ Fr S a b := by
  rw [fr_edge]
  unfold FrJ predUpto
  constructor
  · rintro ⟨q, hq, h1, h2, h3⟩
    rw [List.mem_filter, decide_eq_true_eq] at hq
    exact ⟨q, h1, hq.2, h2, h3⟩
  · rintro ⟨q, h1, h2, h3, h4⟩
    refine ⟨q, ?_, h1, h3, h4⟩
    rw [List.mem_filter, List.mem_range, decide_eq_true_eq]
    exact ⟨hn q h2 h1, h2⟩
/-- Going up from q, where the predecessors P have put b already. -/
structure EdgeF (S : Nat → List Nat) (n b q i : Nat) (x : Int) (P : List Nat) (V : Nat → Prop) : Prop where
  edge : Edge S n b q i x V
  low : ∀ v, V v → ∀ y : Nat, x = (y : Int) → cntD S n y < cntD S n v
  new : ∀ v, V v → ¬ FrJ S b P v
theorem EdgeF.start {S : Nat → List Nat} {n b q : Nat} {P : List Nat} (hq : Rch S q) (hb : b ∈ S q) : EdgeF S n b q 0 (q : Int) P fun _ => False :=
  ⟨Edge.start hq hb, fun v h => h.elim, fun v h => h.elim⟩
theorem EdgeF.at {S : Nat → List Nat} {n b q i : Nat} {x : Int} {P : List Nat} {V : Nat → Prop} (hn : 0 < n) (hS : ∀ b, ∀ t ∈ S b, t < n) (h : EdgeF S n b q i x P V) (hx : x ≠ upI S b) : ∃ y : Nat, x = (y : Int) ∧ y < n ∧ ¬ V y := by
  have hl := h.edge.low
  have : 0 ≤ x := by
    apply Classical.byContradiction
    intro h0
    have e : x = -1 := by omega
    rcases upI_cases S b with ⟨u, hu, eu⟩ | ⟨_, eu⟩
    · obtain ⟨y, ey, _⟩ := h.edge.near u hu
      omega
    · exact hx (by rw [e, eu])
  refine ⟨x.toNat, by omega, ?_, fun hv => ?_⟩
  · exact rch_lt hn hS (h.edge.dom x.toNat (by omega)).1
  · have := h.low _ hv x.toNat (by omega)
    omega
theorem EdgeF.step {S : Nat → List Nat} {n b q i x : Nat} {P : List Nat} {V : Nat → Prop} (hn : 0 < n) (hS : ∀ b, ∀ t ∈ S b, t < n) (h : EdgeF S n b q i (x : Int) P V) (hx : (x : Int) ≠ upI S b) (hP : ¬ FrJ S b P x) : EdgeF S n b q (i + 1) (upI S x) P fun y => V y ∨ y = x := by
  refine ⟨h.edge.step hn hS hx, ?_, ?_⟩
  · intro v hv y ey
    have hu := upI_iff.1 ey
    have h1 := cntD_up (rch_lt hn hS (h.edge.dom x rfl).1) hu
    rcases hv with hv | rfl
    · have := h.low v hv x rfl
      omega
    · exact h1
  · rintro v (hv | rfl)
    · exact h.new v hv
    · exact hP
/-- The end: at the nearest dominator, or where b has been put already. -/
theorem EdgeF.ends {S : Nat → List Nat} {n b q i : Nat} {x : Int} {P : List Nat} {V : Nat → Prop} (hn : 0 < n) (hS : ∀ b, ∀ t ∈ S b, t < n) (h : EdgeF S n b q i x P V) (hq : Rch S q) (hb : b ∈ S q)
    (hx : x = upI S b ∨ ∃ y : Nat, x = (y : Int) ∧ FrJ S b P y) (a : Nat) : FrJ S b (P ++ [q]) a ↔ FrJ S b P a ∨ V a := by
  have hbr : Rch S b := Rch.step q b hq hb
  have key : FrJ S b (P ++ [q]) a ↔ FrJ S b P a ∨ (Dm S a q ∧ ¬ (a ≠ b ∧ Dm S a b)) := by
    unfold FrJ
    constructor
    · rintro ⟨y, hy, h1, h2⟩
      rcases List.mem_append.1 hy with h | h
      · exact .inl ⟨y, h, h1, h2⟩
      · rw [List.mem_singleton] at h
        subst h
        exact .inr h2
    · rintro (⟨y, hy, h⟩ | h)
      · exact ⟨y, List.mem_append_left _ hy, h⟩
      · exact ⟨q, by simp, hq, h⟩
  rw [key]
  rcases hx with hx | ⟨y, rfl, hy⟩
  · rw [Edge.ends hn hS h.edge (.inr hx) hbr a]
  · constructor
    · rintro (k | ⟨k1, k2⟩)
      · exact .inl k
      · rcases h.edge.rest a k1 with v | ⟨z, ez, hz⟩
        · exact .inr v
        · obtain rfl : y = z := by omega
          obtain ⟨p, hp, h1, h2, _⟩ := hy
          exact .inl ⟨p, hp, h1, hz.trans h2, k2⟩
    · rintro (k | k)
      · exact .inl k
      · have := h.edge.past a k
        rw [← edge_iff hn hS hbr] at this
        exact .inr this
open Classical in
/-- The frontier's row of a, while b's predecessors are gone through. -/
noncomputable def frRow (S : Nat → List Nat) (b : Nat) (Q : Nat → Prop) (a : Nat) : List Nat := frUpto S b a ++ if Q a then [b] else []
theorem frRow_none (S : Nat → List Nat) (b a : Nat) : frRow S b (fun _ => False) a = frUpto S b a := by simp [frRow]
theorem frRow_last {S : Nat → List Nat} {b a : Nat} {Q : Nat → Prop} : (frRow S b Q a).getLast? = some b ↔ Q a := by
  unfold frRow
  by_cases h : Q a
  · simp [h]
  · rw [if_neg h, List.append_nil]
    refine ⟨fun e => ?_, fun k => absurd k h⟩
    have := (mem_frUpto.1 (List.mem_of_getLast? e)).1
    omega
theorem frRow_put {S : Nat → List Nat} {b x : Nat} {Q : Nat → Prop} (hx : ¬ Q x) (a : Nat) : frRow S b (fun y => Q y ∨ y = x) a = if a = x then frRow S b Q a ++ [b] else frRow S b Q a := by
  unfold frRow
  by_cases e : a = x
  · subst e
    simp [hx]
  · rw [if_neg e]
    by_cases h : Q a
    · rw [if_pos h, if_pos (.inl h)]
    · rw [if_neg h, if_neg (fun k => k.elim h e)]
theorem frRow_congr {S : Nat → List Nat} {b a : Nat} {Q Q' : Nat → Prop} (h : Q a ↔ Q' a) : frRow S b Q a = frRow S b Q' a := by
  unfold frRow
  by_cases k : Q a
  · rw [if_pos k, if_pos (h.1 k)]
  · rw [if_neg k, if_neg (fun l => k (h.2 l))]
theorem frRow_end {S : Nat → List Nat} {n b a : Nat} (hn : ∀ x, b ∈ S x → Rch S x → x < n) : frRow S b (FrJ S b (predUpto S n b)) a = frUpto S (b + 1) a := by
  rw [frUpto_succ]
  unfold frRow
  have := FrJ.all (a := a) hn
  by_cases h : Fr S a b
  · rw [if_pos (this.2 h), if_pos (frB_iff.2 h)]
  · rw [if_neg (fun k => h (this.1 k)), if_neg (fun k => h (frB_iff.1 k))]
theorem frRow_len (S : Nat → List Nat) (b : Nat) (Q : Nat → Prop) (a : Nat) : (frRow S b Q a).length ≤ b + 1 := by
  unfold frRow
  rw [List.length_append]
  have := frUpto_len S b a
  split <;> simp <;> omega
set_option maxRecDepth 100000 in
theorem endsWith_any {B : Nat} (p : Option Addr) (c : Nat) (M : List Nat) (b : Nat) (w : World) (h : w.ownsRow B 3 1 (.slice p (ints M).length c) (ints M).length ((ints M).flatMap intC)) (hm : M.length ≤ 1048577) :
    Calls Try.prog 33 #[.slice p M.length c, .int .i64 b] w fun e w' => e = .returned (.bool (decide (M.getLast? = some b))) ∧ w' = w := by
  go_enter Try.func33, Try.ntmps33
  by_cases h0 : M.length = 0
  · have hd1 : decide ((0 : Int) < (M.length : Int)) = false := by simp [h0]
    have hd2 : decide (0 < M.length) = false := by simp [h0]
    have hM : decide (M.getLast? = some b) = false := by
      obtain rfl : M = [] := List.eq_nil_of_length_eq_zero h0
      simp
    rw [hM]
    clear hM h0
    go_wp2_with fail
    go_ret
    exact ⟨rfl, rfl⟩
  · have hd1 : decide ((0 : Int) < (M.length : Int)) = true := by simp <;> omega
    have hd2 : decide (0 < M.length) = true := by simp <;> omega
    obtain ⟨k, hk⟩ : ∃ k, M.length = k + 1 := ⟨M.length - 1, by omega⟩
    obtain ⟨a, rfl, _, hc⟩ := own_int h (j := k) (by omega)
    have hM : decide (M.getLast? = some b) = ((M[k] : Int) == (b : Int)) := by
      have e : M.getLast? = some M[k] := by
        rw [List.getLast?_eq_getElem?, List.getElem?_eq_getElem (by omega)]
        congr 2
        omega
      rw [e]
      by_cases q : M[k] = b
      · simp [q]
      · simp [q]
        omega
    rw [hM]
    obtain ⟨y, ey⟩ : ∃ y, M[k] = y := ⟨_, rfl⟩
    rw [ey] at hc
    simp only [ey]
    have hw1 : IntKind.i64.wrap ((M.length : Int) - 1) = (k : Int) := by
      have : (M.length : Int) - 1 = (k : Int) := by omega
      rw [this]
      exact IntWalk.i64_in _ (by omega)
    have hk1 : k < M.length := by omega
    clear hM h0 hk ey h
    go_wp2_with fail
    go_ret
    exact ⟨rfl, rfl⟩
end Go.Proofs.Ytphdhndljgihmaa
