/- Package uses: what Clean answers; rows of instructions that grow. -/
import Derived.Test.YtdfdgpobohpphaaUsG
namespace Go.Proofs.Ytdfdgpobohpphaa
open Go.RowKit Go.Maps
set_option linter.unusedVariables false
set_option linter.unusedSimpArgs false
set_option maxRecDepth 100000
set_option maxHeartbeats 2000000

/-- The function without what nobody needs. -/
noncomputable def clF (f : PFn) : PFn := ⟨f.nm, f.ps, f.rt, cut (ndF (nfs f).flatten) 0 f.bs⟩
theorem codeZ_sel (f : Nat → Bool) : ∀ (c : List PIns) (k : Nat), codeZ (sel f k c) ≤ codeZ c
  | [], k => Nat.le_refl _
  | x :: c, k => by
    have ih := codeZ_sel f c (k + 1)
    show codeZ (if f k then x :: sel f (k + 1) c else sel f (k + 1) c) ≤ codeZ (x :: c)
    unfold codeZ at ih ⊢
    split
    · simp only [List.map_cons, List.sum_cons]; omega
    · simp only [List.map_cons, List.sum_cons]; omega
theorem blksZ_cut (f : Nat → Bool) : ∀ (bs : List (List PIns)) (k : Nat), blksZ (cut f k bs) ≤ blksZ bs
  | [], k => Nat.le_refl _
  | c :: bs, k => by
    have ih := blksZ_cut f bs (k + c.length)
    have h := codeZ_sel f c k
    show blksZ (sel f k c :: cut f (k + c.length) bs) ≤ blksZ (c :: bs)
    unfold blksZ at ih ⊢
    simp only [List.map_cons, List.sum_cons]
    omega
theorem clF_Z (f : PFn) : fnZ (clF f) ≤ fnZ f := by
  have := blksZ_cut (ndF (nfs f).flatten) f.bs 0
  unfold fnZ clF
  simp only
  omega
theorem St.join {B : Nat} {W w w' : World} {X Y : As} (h : St B W X w) (h' : St w.heap.size w Y w') : St B W (As.and X Y) w' := by
  refine ⟨h.below.trans (h'.below.mono h.le), Nat.le_trans h.le h'.le, ⟨X.stay w w' h.sat (fun k hk => h'.below.block k (h.inH k hk)), h'.sat⟩, fun k => ?_, fun k hk => ?_⟩
  · rw [As.and_c]
    have h1 := h.one k
    have h2 := h'.one k
    by_cases e : X.c k = 0
    · omega
    · by_cases e2 : Y.c k = 0
      · omega
      · have := h.inH k e; have := h'.own k e2; omega
  · rw [As.and_c] at hk
    by_cases e : X.c k = 0
    · exact Nat.le_trans h.le (h'.own k (by omega))
    · exact h.own k e
/-- A row of one's own lies in memory. -/
theorem rowP_in {α : Type} {B ty m : Nat} {cel : α → List Value} {E : Nat → World → α → Prop} {p : Option Addr} {n c : Nat} {xs : List α} {w : World} (hm : ∀ x, (cel x).length = m) (h : rowP B ty m cel p n c xs w) (hE : ∀ x ∈ xs, E w.heap.size w x) : ListIn cel E w.heap.size w p n c xs := by
  obtain ⟨h1, h2⟩ := h
  rcases id h2.2 with ⟨e, h0⟩ | ⟨g, cap, cur, e, hg, hh, k1, k2, k3, k4⟩
  · injection e with e1 e2 e3
    subst e1 e2 e3
    have : xs = [] := List.eq_nil_of_length_eq_zero h1.symm
    subst this
    exact ⟨h1, Nat.le_refl _, Nat.zero_le _, fun j u hu => by simp at hu, hE⟩
  · injection e with e1 e2 e3
    subst e1 e3
    refine ⟨h1, k1, k2, fun j u hu => ⟨⟨g, 0, none⟩, rfl, (Array.getElem?_eq_some_iff.1 hh).1, ?_⟩, hE⟩
    have hj : j < n * m := by rw [h1, ← flat_len cel m hm]; exact (List.getElem?_eq_some_iff.1 hu).1
    rw [add0, h2.cellAt j hj]
    exact hu
/-- A row of instructions: where it lies, its room, what it holds. -/
abbrev CR := Option Addr × Nat × List LI
def cC (x : CR) : List Value := [.slice x.1 x.2.2.length x.2.1]
def crA (B : Nat) (x : CR) : As := rw' B 46 7 liC x.1 x.2.2.length x.2.1 x.2.2
def clA (B R : Nat) (L : List CR) : As := As.and (rw' B 43 1 cC (some ⟨R, 0, none⟩) L.length L.length L) (As.all (crA B) L)
def crB (x : CR) : LB := ⟨x.1, x.2.2.length, x.2.1, x.2.2⟩
theorem flatMap_crB : ∀ L : List CR, (L.map crB).flatMap blkC = L.flatMap cC
  | [] => rfl
  | x :: L => by rw [List.map_cons, List.flatMap_cons, List.flatMap_cons, flatMap_crB L]; rfl
theorem made_list (z : Value) (n : Nat) : (madeCells #[z] n).toList = List.replicate n z := by
  apply List.ext_getElem
  · rw [Array.length_toList, size_madeCells, List.length_replicate]
  · intro i h1 h2
    simp only [madeCells, Array.toList_map, List.getElem_map, List.getElem_replicate]
    have : ∀ j : Nat, (#[z] : Array Value)[j % (#[z] : Array Value).size]! = z := fun j => by
      have e : j % (#[z] : Array Value).size = 0 := Nat.mod_one j
      rw [e]; rfl
    exact this _
section
variable {B : Nat} {W w w' : World} {Z : As}
/-- Empty rows, as many as there are blocks. -/
theorem St.newBlocks (h : St B W Z w) (n : Nat) (hn : n ≤ 1048576) : St B W (As.and (clA B w.heap.size (List.replicate n (none, 0, []))) Z) (w.alloc (.cells (madeCells #[.slice none 0 0] n) 43)) := by
  have h0 : St B W (As.and As.emp Z) w := h.imp ⟨fun w x => ⟨trivial, x⟩, fun k => by rw [As.and_c, As.emp_c]; omega⟩
  have hfl : ∀ n, (List.replicate n ((none, 0, []) : CR)).flatMap cC = List.replicate n (.slice none 0 0) := fun n => by
    induction n with
    | zero => rfl
    | succ n ih => rw [List.replicate_succ, List.flatMap_cons, ih, List.replicate_succ]; rfl
  have hall : ∀ n, As.all (crA B) (List.replicate n ((none, 0, []) : CR)) = As.all (crA B) (List.replicate n ((none, 0, []) : CR)) := fun n => rfl
  have hc0 : ∀ n k, (As.all (crA B) (List.replicate n ((none, 0, []) : CR))).c k = 0 := fun n k => by
    induction n with
    | zero => rfl
    | succ n ih => rw [List.replicate_succ, As.all_cons, As.and_c, ih]; rfl
  have hs0 : ∀ n w, (As.all (crA B) (List.replicate n ((none, 0, []) : CR))).sat w := fun n w => by
    induction n with
    | zero => exact trivial
    | succ n ih => rw [List.replicate_succ, As.all_cons, As.and_at]; exact ⟨rw_nil w, ih⟩
  refine h0.change rfl rfl rfl (by simp) (fun k hk _ => heap_alloc_old w _ hk) ⟨⟨rfl, ?_⟩, hs0 n _⟩ (fun k => ?_)
  · rw [List.length_replicate, hfl]
    have hr := World.rowIs_made w (.slice none 0 0) n 43
    refine ⟨by rw [List.length_replicate, Nat.mul_one], .inr ⟨w.heap.size, n, madeCells #[.slice none 0 0] n, rfl, h.le, ?_, Nat.le_refl _, by unfold maxLen; omega, ?_, ?_⟩⟩
    · exact (MapKept.heap_alloc w _).1
    · rw [size_madeCells, Nat.mul_one]
    · rw [Nat.mul_one, made_list, List.take_of_length_le (by simp)]
  · show (clA B w.heap.size (List.replicate n (none, 0, []))).c k ≤ _ ∨ _
    unfold clA
    rw [As.and_c, hc0, rw_c]
    by_cases e : w.heap.size = k
    · exact .inr ⟨by omega, by have := cR_le (some (⟨w.heap.size, 0, none⟩ : Addr)) k; omega⟩
    · exact .inl (by unfold cR; simp [e])
/-- One row is at hand. -/
theorem St.clOpen {R : Nat} {L : List CR} (h : St B W (As.and (clA B R L) Z) w) (b : Nat) (hb : b < L.length) : St B W (As.and (crA B L[b]) (As.and (rw' B 43 1 cC (some ⟨R, 0, none⟩) L.length L.length L) (As.and (As.all (crA B) (L.take b ++ L.drop (b + 1))) Z))) w := by
  have h1 : St B W (As.and (As.all (crA B) L) (As.and (rw' B 43 1 cC (some ⟨R, 0, none⟩) L.length L.length L) Z)) w := h.imp ⟨fun w x => ⟨x.1.2, x.1.1, x.2⟩, fun k => by unfold clA; simp only [As.and_c]; omega⟩
  exact (h1.imp (all_open (crA B) L b hb _)).imp ⟨fun w x => ⟨x.1, x.2.2.1, x.2.1, x.2.2.2⟩, fun k => by simp only [As.and_c]; omega⟩
/-- It has grown, and is told to the row of rows. -/
theorem St.clClose {R : Nat} {L : List CR} (b : Nat) (hb : b < L.length) (y : CR) (h : St B W (As.and (crA B y) (As.and (rw' B 43 1 cC (some ⟨R, 0, none⟩) L.length L.length L) (As.and (As.all (crA B) (L.take b ++ L.drop (b + 1))) Z))) w) :
    St B W (As.and (clA B R (L.set b y)) Z) (w.setCell ⟨R, b, none⟩ (.slice y.1 y.2.2.length y.2.1)) := by
  have h1 : St B W (As.and (rw' B 43 1 cC (some ⟨R, 0, none⟩) L.length L.length L) (As.and (crA B y) (As.and (As.all (crA B) (L.take b ++ L.drop (b + 1))) Z))) w := h.imp ⟨fun w x => ⟨x.2.1, x.1, x.2.2⟩, fun k => by simp only [As.and_c]; omega⟩
  have h2 := h1.upd1 b 0 (.slice y.1 y.2.2.length y.2.1) y (flat_set1 cC 1 (by decide) (fun _ => rfl) L b 0 hb (by decide) _ y rfl)
  rw [Nat.mul_one, Nat.add_zero] at h2
  have hl : (L.set b y).length = L.length := List.length_set ..
  unfold clA
  rw [hl]
  have h3 : St B W (As.and (crA B y) (As.and (As.all (crA B) (L.take b ++ L.drop (b + 1))) (As.and (rw' B 43 1 cC (some ⟨R, 0, none⟩) L.length L.length (L.set b y)) Z))) (w.setCell ⟨R, b, none⟩ (.slice y.1 y.2.2.length y.2.1)) := h2.imp ⟨fun w x => ⟨x.2.1, x.2.2.1, x.1, x.2.2.2⟩, fun k => by simp only [As.and_c]; omega⟩
  exact (h3.imp (all_close (crA B) L b hb y _)).imp ⟨fun w x => ⟨⟨x.2.1, x.1⟩, x.2.2⟩, fun k => by simp only [As.and_c]; omega⟩
theorem St.clCell {R : Nat} {L : List CR} (h : St B W (As.and (clA B R L) Z) w) (b : Nat) (hb : b < L.length) : w.cell? ⟨R, b, none⟩ = some (.slice L[b].1 L[b].2.2.length L[b].2.1) ∧ R < w.heap.size ∧ ∀ i, w.frozen? ⟨R, i, none⟩ = false := by
  have hr : rowP B 43 1 cC (some ⟨R, 0, none⟩) L.length L.length L w := h.sat.1.1
  obtain ⟨R', e, _, hl, _, _, hc⟩ := row_cell hr (fun _ => rfl) b hb
  injection e with e
  injection e with e
  subst e
  have := hc 0 (by decide)
  refine ⟨by simpa [cC] using this, hl, fun i => ?_⟩
  rcases id hr.2.2 with ⟨e, h0⟩ | ⟨g, cap, cur, e, hg, hh, _⟩
  · cases e
  · injection e with e
    injection e with e
    injection e with e
    subst e
    simp [World.frozen?, hh]
end
end Go.Proofs.Ytdfdgpobohpphaa
