/- Package uses: Clean. -/
import Derived.Test.YtdfdgpobohpphaaUsH
namespace Go.Proofs.Ytdfdgpobohpphaa
open Go.RowKit Go.Maps
set_option linter.unusedVariables false
set_option linter.unusedSimpArgs false
set_option maxRecDepth 100000
set_option maxHeartbeats 2000000

/-- What the rows hold while they grow. -/
def CL (cs : List (List Nf)) (bs : List LB) (f : Nat → Bool) (b i : Nat) (L : List CR) : Prop :=
  L.length = bs.length ∧ ∀ j (h : j < L.length) (h' : j < bs.length), L[j].2.2 = if j < b then sel f (base cs j) bs[j].code else if j = b then sel f (base cs j) (bs[j].code.take i) else []
theorem CL.start (cs : List (List Nf)) (bs : List LB) (f : Nat → Bool) : CL cs bs f 0 0 (List.replicate bs.length (none, 0, [])) := by
  refine ⟨List.length_replicate, fun j h h' => ?_⟩
  rw [List.getElem_replicate, if_neg (Nat.not_lt_zero _)]
  split
  · rw [List.take_zero]; rfl
  · rfl
theorem CL.next {cs : List (List Nf)} {bs : List LB} {f : Nat → Bool} {b : Nat} {L : List CR} (hb : b < bs.length) (h : CL cs bs f b bs[b].code.length L) : CL cs bs f (b + 1) 0 L := by
  refine ⟨h.1, fun j h1 h2 => ?_⟩
  rw [h.2 j h1 h2]
  by_cases e : j < b
  · rw [if_pos e, if_pos (by omega)]
  · rw [if_neg e]
    by_cases e2 : j = b
    · subst e2
      rw [if_pos rfl, if_pos (by omega), List.take_length]
    · rw [if_neg e2, if_neg (by omega)]
      split
      · rw [List.take_zero]; rfl
      · rfl
theorem CL.skip {cs : List (List Nf)} {bs : List LB} {f : Nat → Bool} {b i : Nat} {L : List CR} (hb : b < bs.length) (hi : i < bs[b].code.length) (hf : f (base cs b + i) = false) (h : CL cs bs f b i L) : CL cs bs f b (i + 1) L := by
  refine ⟨h.1, fun j h1 h2 => ?_⟩
  rw [h.2 j h1 h2]
  by_cases e : j < b
  · rw [if_pos e, if_pos e]
  · rw [if_neg e, if_neg e]
    by_cases e2 : j = b
    · subst e2
      rw [if_pos rfl, if_pos rfl, List.take_succ_eq_append_getElem hi, sel_snoc, List.length_take, Nat.min_eq_left (Nat.le_of_lt hi), hf]
      simp
    · rw [if_neg e2, if_neg e2]
theorem CL.grow {cs : List (List Nf)} {bs : List LB} {f : Nat → Bool} {b i : Nat} {L : List CR} (hb : b < bs.length) (hi : i < bs[b].code.length) (hf : f (base cs b + i) = true) (hL : b < L.length) (p : Option Addr) (c : Nat) (h : CL cs bs f b i L) : CL cs bs f b (i + 1) (L.set b (p, c, L[b].2.2 ++ [bs[b].code[i]])) := by
  refine ⟨by rw [List.length_set]; exact h.1, fun j h1 h2 => ?_⟩
  have h1' : j < L.length := by simpa using h1
  have := h.2 j h1' h2
  rw [List.getElem_set]
  by_cases e2 : b = j
  · subst e2
    rw [if_pos rfl, if_neg (Nat.lt_irrefl _), if_pos rfl, List.take_succ_eq_append_getElem hi, sel_snoc, List.length_take, Nat.min_eq_left (Nat.le_of_lt hi), hf]
    rw [if_neg (Nat.lt_irrefl _), if_pos rfl] at this
    rw [this]
    simp
  · rw [if_neg e2, this]
    by_cases e : j < b
    · rw [if_pos e, if_pos e]
    · rw [if_neg e, if_neg e, if_neg (by omega), if_neg (by omega)]
theorem CL.len {cs : List (List Nf)} {bs : List LB} {f : Nat → Bool} {b i : Nat} {L : List CR} (hb : b < bs.length) (hL : b < L.length) (h : CL cs bs f b i L) : L[b].2.2.length ≤ bs[b].code.length := by
  rw [h.2 b hL hb, if_neg (Nat.lt_irrefl _), if_pos rfl]
  exact Nat.le_trans (sel_len _ _ _) (by rw [List.length_take]; omega)
theorem cC_row {B : Nat} {w : World} {R : Nat} {L : List CR} (hr : rowP B 43 1 cC (some ⟨R, 0, none⟩) L.length L.length L w) (b : Nat) (hb : b < L.length) : w.cell? ⟨R, b, none⟩ = some (.slice L[b].1 L[b].2.2.length L[b].2.1) ∧ R < w.heap.size ∧ ∀ i, w.frozen? ⟨R, i, none⟩ = false := by
  obtain ⟨R', e, _, hl, _, _, hc⟩ := row_cell hr (fun _ => rfl) b hb
  injection e with e
  injection e with e
  subst e
  have := hc 0 (by decide)
  refine ⟨by simpa [cC] using this, hl, fun i => ?_⟩
  rcases id hr.2.2 with ⟨e, h0⟩ | ⟨g, cap, cur, e, hg, hh, _⟩
  · cases e
  · injection e with e
    injection e with e
    injection e with e
    subst e
    simp [World.frozen?, hh]
end Go.Proofs.Ytdfdgpobohpphaa
