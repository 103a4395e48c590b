/- The document's memory: a list of blocks; Alive, Size. -/
import Derived.Test.YtkbkgbkoplcgeaaMP
namespace Go.Proofs.Ytkbkgbkoplcgeaa
open Go.RowKit Go.Maps
set_option linter.unusedVariables false
set_option linter.unusedSimpArgs false

/-- A block of the document's memory: whether it is alive, its bytes and where they lie. -/
structure Rk where
  a : Bool
  p : Option Addr
  c : Nat
  l : List By
def rkC (x : Rk) : List Value := [.bool x.a, .slice x.p x.l.length x.c]
theorem rkC_len (x : Rk) : (rkC x).length = 2 := rfl
def RkIn (B : Nat) (w : World) (x : Rk) : Prop := BysIn B w x.p x.l.length x.c x.l
theorem lasts_Rk : Lasts RkIn := fun _ _ _ _ _ hb hB h => ListIn.lasts lasts_NoMem h hb hB
/-- What such a list of blocks shows. -/
def rkD (x : Rk) : Option (List By) := if x.a then some x.l else none
/-- The document's memory. -/
structure RmIn (w : World) (p : Option Addr) (c : Nat) (xs : List Rk) (D : Dm) : Prop where
  row : ListIn rkC RkIn w.heap.size w p xs.length c xs
  shows : D = xs.map rkD
  small : ∀ x ∈ xs, x.l.length ≤ 4096
theorem RmIn.later {w w' : World} {p : Option Addr} {c : Nat} {xs : List Rk} {D : Dm} (h : RmIn w p c xs D) (hb : Below w.heap.size w w') : RmIn w' p c xs D := ⟨ListIn.lasts lasts_Rk h.row hb hb.size, h.shows, h.small⟩
theorem RmIn.len {w : World} {p : Option Addr} {c : Nat} {xs : List Rk} {D : Dm} (h : RmIn w p c xs D) : D.length = xs.length := by rw [h.shows, List.length_map]
theorem RmIn.cell {w : World} {p : Option Addr} {c : Nat} {xs : List Rk} {D : Dm} (h : RmIn w p c xs D) (i : Nat) (hi : i < xs.length) :
    ∃ a, p = some a ∧ a.block < w.heap.size ∧ w.cell? (a.add (i * 2)) = some (.bool xs[i].a) ∧ w.cell? ⟨(a.add (i * 2)).block, (a.add (i * 2)).off + 1, none⟩ = some (.slice xs[i].p xs[i].l.length xs[i].c) ∧ RkIn w.heap.size w xs[i] := by
  have hr := h.row.2.2.2.1
  have hx : ∀ r u, (rkC xs[i])[r]? = some u → ∃ a, p = some a ∧ a.block < w.heap.size ∧ w.cell? (a.add (i * 2 + r)) = some u := fun r u hu => by
    refine hr (i * 2 + r) u ?_
    rw [flat_get rkC 2 rkC_len xs i hi r (by
      have := (List.getElem?_eq_some_iff.1 hu).1
      rwa [rkC_len] at this)]
    exact hu
  obtain ⟨a, e, hb, h0⟩ := hx 0 _ rfl
  obtain ⟨a1, e1, _, h1⟩ := hx 1 _ rfl
  subst e
  cases e1
  rw [add_add _ _ _ (by decide)] at h1
  exact ⟨a, rfl, hb, h0, h1, h.row.2.2.2.2 _ (List.getElem_mem hi)⟩
theorem RmIn.at {w : World} {p : Option Addr} {c : Nat} {xs : List Rk} {D : Dm} (h : RmIn w p c xs D) (i : Nat) (hi : i < xs.length) : atD D (i : Int) = rkD xs[i] := by
  unfold atD
  rw [if_pos (by omega), h.shows, List.getD_eq_getElem?_getD, List.getElem?_map, show ((i : Int)).toNat = i by omega, List.getElem?_eq_getElem hi]
  rfl
def dAlive (D : Dm) (k : Int) : Bool := (atD D k).isSome
theorem RmIn.alive {w : World} {p : Option Addr} {c : Nat} {xs : List Rk} {D : Dm} (h : RmIn w p c xs D) (i : Nat) (hi : i < xs.length) : dAlive D (i : Int) = xs[i].a := by
  unfold dAlive
  rw [h.at i hi]
  unfold rkD
  cases xs[i].a <;> rfl
theorem RmIn.out {w : World} {p : Option Addr} {c : Nat} {xs : List Rk} {D : Dm} (h : RmIn w p c xs D) (k : Int) (hk : ¬ (0 ≤ k ∧ k < xs.length)) : atD D k = none := by
  unfold atD
  by_cases h0 : 0 ≤ k
  · rw [if_pos h0, List.getD_eq_getElem?_getD, List.getElem?_eq_none (by rw [h.len]; omega)]
    rfl
  · rw [if_neg h0]
set_option maxHeartbeats 1000000 in
theorem rAlive_any (W : World) (p : Option Addr) (c : Nat) (xs : List Rk) (D : Dm) (k : Int) (h : RmIn W p c xs D) :
    Calls Try.prog 69 #[.slice p xs.length c, .int .i64 k] W fun e w' => e = .returned (.bool (dAlive D k)) ∧ W = w' := by
  have hc := h.row.2.1
  have hc2 := h.row.2.2.1
  unfold maxLen at hc2
  by_cases h0 : 0 ≤ k
  · by_cases h1 : k < xs.length
    · obtain ⟨i, rfl⟩ : ∃ i : Nat, k = i := ⟨k.toNat, by omega⟩
      have hi : i < xs.length := by omega
      obtain ⟨a, ea, ha, f0, _, _⟩ := h.cell i hi
      have hv := h.alive i hi
      subst ea
      obtain ⟨A, eA⟩ : ∃ A, xs[i].a = A := ⟨_, rfl⟩
      rw [eA] at f0 hv
      have HV := Lib.hid hv
      clear hv eA h
      go_enter Try.func69, Try.ntmps69
      go_wp2_with fail
      go_ret
      exact ⟨by rw [HV.out]; rfl, rfl⟩
    · have hv : dAlive D k = false := by unfold dAlive; rw [h.out k (by omega)]; rfl
      have HV := Lib.hid hv
      clear hv h
      go_enter Try.func69, Try.ntmps69
      go_wp2_with fail
      go_ret
      exact ⟨by rw [HV.out]; rfl, rfl⟩
  · have hv : dAlive D k = false := by unfold dAlive; rw [h.out k (by omega)]; rfl
    have HV := Lib.hid hv
    clear hv h
    go_enter Try.func69, Try.ntmps69
    go_wp2_with fail
    go_ret
    exact ⟨by rw [HV.out]; rfl, rfl⟩
set_option maxHeartbeats 1000000 in
theorem rSize_any (W : World) (p : Option Addr) (c : Nat) (xs : List Rk) (D : Dm) (k : Int) (h : RmIn W p c xs D) :
    Calls Try.prog 56 #[.slice p xs.length c, .int .i64 k] W fun e w' => e = .returned (.int .i64 (dSize D k)) ∧ W = w' := by
  have hc := h.row.2.1
  have hc2 := h.row.2.2.1
  unfold maxLen at hc2
  have c1 := rAlive_any W p c xs D k h
  by_cases hA : dAlive D k = true
  · rw [hA] at c1
    have hin : 0 ≤ k ∧ k < xs.length := by
      refine Classical.byContradiction fun hn => ?_
      unfold dAlive at hA
      rw [h.out k hn] at hA
      cases hA
    obtain ⟨i, rfl⟩ : ∃ i : Nat, k = i := ⟨k.toNat, by omega⟩
    have hi : i < xs.length := by omega
    obtain ⟨a, ea, ha, _, f1, _⟩ := h.cell i hi
    have hv := h.at i hi
    have ha := h.alive i hi
    subst ea
    rw [hA] at ha
    obtain ⟨⟨A, q, d, l⟩, eA⟩ : ∃ A, xs[i] = A := ⟨_, rfl⟩
    rw [eA] at f1 hv ha
    simp only at f1 ha
    subst ha
    have hs : dSize D (i : Int) = l.length := by unfold dSize; rw [hv]; rfl
    have HS := Lib.hid hs
    clear hv eA h hA hs
    have t : (i : Int) < (xs.length : Int) := by omega
    go_enter Try.func56, Try.ntmps56
    go_wp2_with (first | ((with_reducible refine c1.mono ?_); rintro e w1 ⟨rfl, rfl⟩))
    go_ret
    exact ⟨by rw [HS.out]; rfl, rfl⟩
  · have hA' : dAlive D k = false := by simpa using hA
    rw [hA'] at c1
    have hs : dSize D k = -1 := by
      unfold dAlive at hA'
      unfold dSize
      cases e : atD D k with
      | none => rfl
      | some l => rw [e] at hA'; cases hA'
    have HS := Lib.hid hs
    clear hA hA' hs h
    go_enter Try.func56, Try.ntmps56
    go_wp2_with (first | ((with_reducible refine c1.mono ?_); rintro e w1 ⟨rfl, rfl⟩))
    go_ret
    exact ⟨by rw [HS.out]; rfl, rfl⟩
end Go.Proofs.Ytkbkgbkoplcgeaa
