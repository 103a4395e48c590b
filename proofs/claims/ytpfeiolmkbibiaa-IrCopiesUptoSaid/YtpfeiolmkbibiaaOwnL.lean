/- The document's sameness (package latheref02): lists of numbers, instructions. -/
import Derived.Test.YtpfeiolmkbibiaaOwnJ
namespace Go.Proofs.Ytpfeiolmkbibiaa
open Go.RowKit Go.Maps
set_option linter.unusedVariables false
set_option linter.unusedSimpArgs false

/-- A bool that says whether p; and nothing that was there has changed. -/
def Tells (p : Prop) (W : World) (e : Ending) (w' : World) : Prop := ∃ b : Bool, e = .returned (.bool b) ∧ (b = true ↔ p) ∧ Below W.heap.size W w'
theorem Tells.imp {p q : Prop} {W : World} {e : Ending} {w' : World} (h : Tells p W e w') (hpq : p ↔ q) : Tells q W e w' := by
  obtain ⟨b, h1, h2, h3⟩ := h
  exact ⟨b, h1, h2.trans hpq, h3⟩
theorem list_ext {α : Type} {xs ys : List α} (hl : xs.length = ys.length) (h : ∀ i (h1 : i < xs.length) (h2 : i < ys.length), xs[i] = ys[i]) : xs = ys := List.ext_getElem hl h
theorem int_row {B : Nat} {w : World} {p : Option Addr} {n c : Nat} {L : List Int} (h : ListIn intC NoMem B w p n c L) (i : Nat) (hi : i < L.length) : ∃ a, p = some a ∧ a.block < B ∧ w.cell? (a.add i) = some (.int .i64 L[i]) := by
  obtain ⟨h1, h2, h3, h4, -⟩ := h
  obtain ⟨a, e, ha, hc⟩ := h4.at (m := 1) (fun _ => rfl) i hi (by decide)
  refine ⟨a, e, ha, ?_⟩
  have := hc 0 (by decide)
  rw [Nat.mul_one, Nat.add_zero] at this
  exact this
theorem arg_row {B : Nat} {w : World} {p : Option Addr} {n c : Nat} {L : List Arg} (h : ListIn argC NoMem B w p n c L) (i : Nat) (hi : i < L.length) : ∃ a, p = some a ∧ a.block < B ∧ ArgAt w (a.add (i * 3)) L[i] := by
  obtain ⟨h1, h2, h3, h4, -⟩ := h
  obtain ⟨a, e, ha, hc⟩ := h4.at (m := 3) (fun _ => rfl) i hi (by decide)
  refine ⟨a, e, ha, hc 0 (by decide), ?_, ?_⟩
  · have := hc 1 (by decide); rw [add_add a _ 1 (by decide)] at this; exact this
  · have := hc 2 (by decide); rw [add_add a _ 2 (by decide)] at this; exact this

set_option maxRecDepth 100000 in
set_option maxHeartbeats 2000000 in
theorem Ints_any (W : World) (p p' : Option Addr) (n n' c c' : Nat) (ts ts' : List Int) (h : ListIn intC NoMem W.heap.size W p n c ts) (h' : ListIn intC NoMem W.heap.size W p' n' c' ts') :
    Calls Try.prog 42 #[.slice p n c, .slice p' n' c'] W (Tells (ts = ts') W) := by
  obtain rfl : n = ts.length := h.1
  obtain rfl : n' = ts'.length := h'.1
  have k2 := h.2.1
  have k3 := h.2.2.1
  have k2' := h'.2.1
  have k3' := h'.2.2.1
  unfold maxLen at k3 k3'
  have H := Lib.hid h
  have H' := Lib.hid h'
  clear h h'
  go_enter Try.func42, Try.ntmps42
  by_cases hl : ts.length = ts'.length
  · have hl2 : ((ts.length : Int) != (ts'.length : Int)) = false := by simp [hl]
    have HL := Lib.hid hl
    clear hl
    go_wp2_with fail
    go_loopw [5] (fun t wr => ∃ k : Nat, k ≤ ts.length ∧ t = .int .i64 k ∧ Below W.heap.size W wr ∧ Hid (∀ i (h1 : i < ts.length) (h2 : i < ts'.length), i < k → ts[i] = ts'[i])) (fun t _ => ts.length - (intOf t).toNat)
    case atStart => exact ⟨0, Nat.zero_le _, rfl, Below.refl _ _, Lib.hid (fun i _ _ h => absurd h (Nat.not_lt_zero i))⟩
    case round =>
      obtain ⟨k, hk, rfl, hb, hE⟩ := hrel
      by_cases hlt : k < ts.length
      · have hlt' : k < ts'.length := by have := HL.out; omega
        obtain ⟨a, rfl, ha, hc⟩ := int_row H.out k hlt
        obtain ⟨a', rfl, ha', hc'⟩ := int_row H'.out k hlt'
        have f0 := (hb.cell (p := a.add k) (by rw [add_block]; exact ha)).trans hc
        have f0' := (hb.cell (p := a'.add k) (by rw [add_block]; exact ha')).trans hc'
        clear hc hc'
        by_cases hq : ts[k] = ts'[k]
        · have hq2 : (ts[k] != ts'[k]) = false := by simp [hq]
          have HQ := Lib.hid hq
          clear hq
          go_wp2_with fail
          go_region
          all_goals go_wp2
          all_goals exact ⟨⟨k + 1, by omega, by go_num, by first | exact hb | exact below_drew hb, Lib.hid (fun i h1 h2 h3 => by
            by_cases e : i = k
            · subst e; exact HQ.out
            · exact hE.out i h1 h2 (by omega))⟩, by simp [intOf]; omega⟩
        · have hq2 : (ts[k] != ts'[k]) = true := by simpa using hq
          have HQ := Lib.hid hq
          clear hq
          go_wp2_with fail
          go_region
          all_goals go_wp2
          all_goals go_ret
          all_goals exact ⟨false, rfl, by simp only [Bool.false_eq_true, false_iff]; intro e; subst e; exact HQ.out rfl, by first | exact hb | exact below_drew hb⟩
      · go_wp2_with fail
        go_ret
        refine ⟨true, rfl, ?_, hb⟩
        simp only [true_iff]
        exact list_ext HL.out (fun i h1 h2 => hE.out i h1 h2 (by omega))
  · have hl2 : ((ts.length : Int) != (ts'.length : Int)) = true := by simp; omega
    have HL := Lib.hid hl
    clear hl
    go_wp2_with fail
    go_ret
    exact ⟨false, rfl, by simp only [Bool.false_eq_true, false_iff]; intro e; subst e; exact HL.out rfl, Below.refl _ _⟩
end Go.Proofs.Ytpfeiolmkbibiaa
