/- The document's answer for uses: Needed, by blocks. -/
import Derived.Test.YtdfdgpobohpphaaRuC
import Derived.Test.YtdfdgpobohpphaaUsJ
namespace Go.Proofs.Ytdfdgpobohpphaa
open Go.RowKit Go.Maps
set_option linter.unusedVariables false
set_option linter.unusedSimpArgs false
set_option maxRecDepth 100000
set_option maxHeartbeats 2000000

def bC (b : Bool) : List Value := [.bool b]
theorem bC_one (x : Bool) : ∀ u ∈ bC x, u.oneCell' = true := by intro u hu; unfold bC at hu; simp at hu; rw [hu]; rfl
/-- A row of instructions: where it lies, its room, what it holds. -/
abbrev CRb := Option Addr × Nat × List Bool
def cCb (x : CRb) : List Value := [.slice x.1 x.2.2.length x.2.1]
def crAb (B : Nat) (x : CRb) : As := rw' B 4 1 bC x.1 x.2.2.length x.2.1 x.2.2
def clAb (B R : Nat) (L : List CRb) : As := As.and (rw' B 36 1 cCb (some ⟨R, 0, none⟩) L.length L.length L) (As.all (crAb B) L)
section
variable {B : Nat} {W w w' : World} {Z : As}
/-- Empty rows, as many as there are blocks. -/
theorem St.newBlocksB (h : St B W Z w) (n : Nat) (hn : n ≤ 1048576) : St B W (As.and (clAb B w.heap.size (List.replicate n (none, 0, []))) Z) (w.alloc (.cells (madeCells #[.slice none 0 0] n) 36)) := by
  have h0 : St B W (As.and As.emp Z) w := h.imp ⟨fun w x => ⟨trivial, x⟩, fun k => by rw [As.and_c, As.emp_c]; omega⟩
  have hfl : ∀ n, (List.replicate n ((none, 0, []) : CRb)).flatMap cCb = List.replicate n (.slice none 0 0) := fun n => by
    induction n with
    | zero => rfl
    | succ n ih => rw [List.replicate_succ, List.flatMap_cons, ih, List.replicate_succ]; rfl
  have hall : ∀ n, As.all (crAb B) (List.replicate n ((none, 0, []) : CRb)) = As.all (crAb B) (List.replicate n ((none, 0, []) : CRb)) := fun n => rfl
  have hc0 : ∀ n k, (As.all (crAb B) (List.replicate n ((none, 0, []) : CRb))).c k = 0 := fun n k => by
    induction n with
    | zero => rfl
    | succ n ih => rw [List.replicate_succ, As.all_cons, As.and_c, ih]; rfl
  have hs0 : ∀ n w, (As.all (crAb B) (List.replicate n ((none, 0, []) : CRb))).sat w := fun n w => by
    induction n with
    | zero => exact trivial
    | succ n ih => rw [List.replicate_succ, As.all_cons, As.and_at]; exact ⟨rw_nil w, ih⟩
  refine h0.change rfl rfl rfl (by simp) (fun k hk _ => heap_alloc_old w _ hk) ⟨⟨rfl, ?_⟩, hs0 n _⟩ (fun k => ?_)
  · rw [List.length_replicate, hfl]
    have hr := World.rowIs_made w (.slice none 0 0) n 36
    refine ⟨by rw [List.length_replicate, Nat.mul_one], .inr ⟨w.heap.size, n, madeCells #[.slice none 0 0] n, rfl, h.le, ?_, Nat.le_refl _, by unfold maxLen; omega, ?_, ?_⟩⟩
    · exact (MapKept.heap_alloc w _).1
    · rw [size_madeCells, Nat.mul_one]
    · rw [Nat.mul_one, made_list, List.take_of_length_le (by simp)]
  · show (clAb B w.heap.size (List.replicate n (none, 0, []))).c k ≤ _ ∨ _
    unfold clAb
    rw [As.and_c, hc0, rw_c]
    by_cases e : w.heap.size = k
    · exact .inr ⟨by omega, by have := cR_le (some (⟨w.heap.size, 0, none⟩ : Addr)) k; omega⟩
    · exact .inl (by unfold cR; simp [e])
/-- One row is at hand. -/
theorem St.clOpenB {R : Nat} {L : List CRb} (h : St B W (As.and (clAb B R L) Z) w) (b : Nat) (hb : b < L.length) : St B W (As.and (crAb B L[b]) (As.and (rw' B 36 1 cCb (some ⟨R, 0, none⟩) L.length L.length L) (As.and (As.all (crAb B) (L.take b ++ L.drop (b + 1))) Z))) w := by
  have h1 : St B W (As.and (As.all (crAb B) L) (As.and (rw' B 36 1 cCb (some ⟨R, 0, none⟩) L.length L.length L) Z)) w := h.imp ⟨fun w x => ⟨x.1.2, x.1.1, x.2⟩, fun k => by unfold clAb; simp only [As.and_c]; omega⟩
  exact (h1.imp (all_open (crAb B) L b hb _)).imp ⟨fun w x => ⟨x.1, x.2.2.1, x.2.1, x.2.2.2⟩, fun k => by simp only [As.and_c]; omega⟩
/-- It has grown, and is told to the row of rows. -/
theorem St.clCloseB {R : Nat} {L : List CRb} (b : Nat) (hb : b < L.length) (y : CRb) (h : St B W (As.and (crAb B y) (As.and (rw' B 36 1 cCb (some ⟨R, 0, none⟩) L.length L.length L) (As.and (As.all (crAb B) (L.take b ++ L.drop (b + 1))) Z))) w) :
    St B W (As.and (clAb B R (L.set b y)) Z) (w.setCell ⟨R, b, none⟩ (.slice y.1 y.2.2.length y.2.1)) := by
  have h1 : St B W (As.and (rw' B 36 1 cCb (some ⟨R, 0, none⟩) L.length L.length L) (As.and (crAb B y) (As.and (As.all (crAb B) (L.take b ++ L.drop (b + 1))) Z))) w := h.imp ⟨fun w x => ⟨x.2.1, x.1, x.2.2⟩, fun k => by simp only [As.and_c]; omega⟩
  have h2 := h1.upd1 b 0 (.slice y.1 y.2.2.length y.2.1) y (flat_set1 cCb 1 (by decide) (fun _ => rfl) L b 0 hb (by decide) _ y rfl)
  rw [Nat.mul_one, Nat.add_zero] at h2
  have hl : (L.set b y).length = L.length := List.length_set ..
  unfold clAb
  rw [hl]
  have h3 : St B W (As.and (crAb B y) (As.and (As.all (crAb B) (L.take b ++ L.drop (b + 1))) (As.and (rw' B 36 1 cCb (some ⟨R, 0, none⟩) L.length L.length (L.set b y)) Z))) (w.setCell ⟨R, b, none⟩ (.slice y.1 y.2.2.length y.2.1)) := h2.imp ⟨fun w x => ⟨x.2.1, x.2.2.1, x.1, x.2.2.2⟩, fun k => by simp only [As.and_c]; omega⟩
  exact (h3.imp (all_close (crAb B) L b hb y _)).imp ⟨fun w x => ⟨⟨x.2.1, x.1⟩, x.2.2⟩, fun k => by simp only [As.and_c]; omega⟩
theorem St.clCellB {R : Nat} {L : List CRb} (h : St B W (As.and (clAb B R L) Z) w) (b : Nat) (hb : b < L.length) : w.cell? ⟨R, b, none⟩ = some (.slice L[b].1 L[b].2.2.length L[b].2.1) ∧ R < w.heap.size ∧ ∀ i, w.frozen? ⟨R, i, none⟩ = false := by
  have hr : rowP B 36 1 cCb (some ⟨R, 0, none⟩) L.length L.length L w := h.sat.1.1
  obtain ⟨R', e, _, hl, _, _, hc⟩ := row_cell hr (fun _ => rfl) b hb
  injection e with e
  injection e with e
  subst e
  have := hc 0 (by decide)
  refine ⟨by simpa [cCb] using this, hl, fun i => ?_⟩
  rcases id hr.2.2 with ⟨e, h0⟩ | ⟨g, cap, cur, e, hg, hh, _⟩
  · cases e
  · injection e with e
    injection e with e
    injection e with e
    subst e
    simp [World.frozen?, hh]
end
theorem cCb_row {B : Nat} {w : World} {R : Nat} {L : List CRb} (hr : rowP B 36 1 cCb (some ⟨R, 0, none⟩) L.length L.length L w) (b : Nat) (hb : b < L.length) : w.cell? ⟨R, b, none⟩ = some (.slice L[b].1 L[b].2.2.length L[b].2.1) ∧ R < w.heap.size ∧ ∀ i, w.frozen? ⟨R, i, none⟩ = false := by
  obtain ⟨R', e, _, hl, _, _, hc⟩ := row_cell hr (fun _ => rfl) b hb
  injection e with e
  injection e with e
  subst e
  have := hc 0 (by decide)
  refine ⟨by simpa [cCb] using this, hl, fun i => ?_⟩
  rcases id hr.2.2 with ⟨e, h0⟩ | ⟨g, cap, cur, e, hg, hh, _⟩
  · cases e
  · injection e with e
    injection e with e
    injection e with e
    subst e
    simp [World.frozen?, hh]

def CB (T : List (List Bool)) (b i : Nat) (L : List CRb) : Prop :=
  L.length = T.length ∧ ∀ j (h : j < L.length) (h' : j < T.length), L[j].2.2 = if j < b then T[j] else if j = b then T[j].take i else []
theorem CB.start (T : List (List Bool)) : CB T 0 0 (List.replicate T.length (none, 0, [])) := by
  refine ⟨List.length_replicate, fun j h h' => ?_⟩
  rw [List.getElem_replicate, if_neg (Nat.not_lt_zero _)]
  split
  · rw [List.take_zero]
  · rfl
theorem CB.next {T : List (List Bool)} {b : Nat} {L : List CRb} (hb : b < T.length) (h : CB T b T[b].length L) : CB T (b + 1) 0 L := by
  refine ⟨h.1, fun j h1 h2 => ?_⟩
  rw [h.2 j h1 h2]
  by_cases e : j < b
  · rw [if_pos e, if_pos (by omega)]
  · rw [if_neg e]
    by_cases e2 : j = b
    · subst e2
      rw [if_pos rfl, if_pos (by omega), List.take_length]
    · rw [if_neg e2, if_neg (by omega)]
      split
      · rw [List.take_zero]
      · rfl
theorem CB.grow {T : List (List Bool)} {b i : Nat} {L : List CRb} (hb : b < T.length) (hi : i < T[b].length) (hL : b < L.length) (p : Option Addr) (c : Nat) (h : CB T b i L) : CB T b (i + 1) (L.set b (p, c, L[b].2.2 ++ [T[b][i]])) := by
  refine ⟨by rw [List.length_set]; exact h.1, fun j h1 h2 => ?_⟩
  have h1' : j < L.length := by simpa using h1
  have := h.2 j h1' h2
  rw [List.getElem_set]
  by_cases e2 : b = j
  · subst e2
    rw [if_pos rfl, if_neg (Nat.lt_irrefl _), if_pos rfl, List.take_succ_eq_append_getElem hi]
    rw [if_neg (Nat.lt_irrefl _), if_pos rfl] at this
    rw [this]
  · rw [if_neg e2, this]
    by_cases e : j < b
    · rw [if_pos e, if_pos e]
    · rw [if_neg e, if_neg e, if_neg (by omega), if_neg (by omega)]
theorem CB.len {T : List (List Bool)} {b i : Nat} {L : List CRb} (hb : b < T.length) (hL : b < L.length) (h : CB T b i L) : L[b].2.2.length ≤ T[b].length := by
  rw [h.2 b hL hb, if_neg (Nat.lt_irrefl _), if_pos rfl, List.length_take]; omega
theorem CB.ends {T : List (List Bool)} {L : List CRb} (h : CB T T.length 0 L) : L.map (fun x => x.2.2) = T := by
  apply List.ext_getElem
  · rw [List.length_map, h.1]
  · intro j h1 h2
    have h1' : j < L.length := by simpa using h1
    rw [List.getElem_map, h.2 j h1' h2, if_pos h2]
end Go.Proofs.Ytdfdgpobohpphaa
