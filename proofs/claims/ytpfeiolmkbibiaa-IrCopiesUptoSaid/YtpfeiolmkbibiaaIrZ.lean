/- Package ir: copyInstr, of any instruction. -/
import Derived.Test.YtpfeiolmkbibiaaIrY
import Derived.Deep.Heap
import Derived.Deep.Onto
namespace Go.Proofs.Ytpfeiolmkbibiaa
open Go.RowKit Go.Maps
set_option linter.unusedVariables false
set_option linter.unusedSimpArgs false

def argC (v : Arg) : List Value := [.int .i64 v.kind, .int .i64 v.n, .int .u64 v.bits]
theorem argC_one (l : List Arg) : ∀ u ∈ l.flatMap argC, u.oneCell' = true := by
  intro u hu
  obtain ⟨v, _, h⟩ := List.mem_flatMap.1 hu
  unfold argC at h
  simp at h
  rcases h with rfl | rfl | rfl <;> rfl
theorem argC_len (l : List Arg) : (l.flatMap argC).length = l.length * 3 := by
  induction l with
  | nil => rfl
  | cons v l ih => rw [List.flatMap_cons, List.length_append, ih, List.length_cons]; simp [argC]; omega
theorem add_add (a : Addr) (m r : Nat) (hr : r ≠ 0) : a.add (m + r) = ⟨(a.add m).block, (a.add m).off + r, none⟩ := by
  rw [add_pos a (m + r) (by omega)]
  by_cases hm : m = 0
  · subst hm; rw [add_zero, Nat.zero_add]
  · rw [add_pos a m hm]; simp [Nat.add_assoc]
theorem args_cells {B : Nat} {W : World} {d : Ins} (h : ArgsAt B W d) : ∀ j u, (d.args.flatMap argC)[j]? = some u → ∃ a, d.ap = some a ∧ W.cell? (a.add j) = some u := by
  intro j u hu
  have hj : j < d.args.length * 3 := by rw [← argC_len]; exact (List.getElem?_eq_some_iff.1 hu).1
  obtain ⟨i, r, rfl, hr⟩ : ∃ i r, j = i * 3 + r ∧ r < 3 := ⟨j / 3, j % 3, by omega, by omega⟩
  have hi : i < d.args.length := by omega
  rw [flat_get argC 3 (fun _ => rfl) d.args i hi r hr] at hu
  obtain ⟨a, e, ha, h0, h1, h2⟩ := h.2.2.2 i hi
  refine ⟨a, e, ?_⟩
  rcases (show r = 0 ∨ r = 1 ∨ r = 2 by omega) with rfl | rfl | rfl
  · rw [Nat.add_zero, h0]; exact hu
  · rw [add_add a _ 1 (by decide), h1]; exact hu
  · rw [add_add a _ 2 (by decide), h2]; exact hu
theorem ints_cells {B : Nat} {W : World} {p : Option Addr} {n c : Nat} {ts : List Int} (h : IntsAt B W p n c ts) : ∀ j u, (ts.map (Value.int .i64))[j]? = some u → ∃ a, p = some a ∧ W.cell? (a.add j) = some u := by
  intro j u hu
  have hj : j < ts.length := by have := (List.getElem?_eq_some_iff.1 hu).1; simpa using this
  obtain ⟨a, e, ha, h0⟩ := h.2.2.2 j hj
  refine ⟨a, e, ?_⟩
  rw [h0, ← hu]
  simp [hj]
/-- The numbers of an instruction, with other lists. -/
def Ins.with (d : Ins) (ap : Option Addr) (ac : Nat) (tp : Option Addr) (tc : Nat) : Ins := { d with ap := ap, ac := ac, tp := tp, tc := tc }

/-- A block of seven cells of the call's own, that may be written. -/
def Sev (g : Nat) (x0 x1 x2 x3 x4 x5 x6 : Value) (w : World) : Prop :=
  g < w.heap.size ∧ (∀ i, w.frozen? ⟨g, i, none⟩ = false) ∧ w.cell? ⟨g, 0, none⟩ = some x0 ∧ w.cell? ⟨g, 1, none⟩ = some x1 ∧ w.cell? ⟨g, 2, none⟩ = some x2 ∧ w.cell? ⟨g, 3, none⟩ = some x3 ∧ w.cell? ⟨g, 4, none⟩ = some x4 ∧ w.cell? ⟨g, 5, none⟩ = some x5 ∧ w.cell? ⟨g, 6, none⟩ = some x6
theorem Sev.below {B g : Nat} {x0 x1 x2 x3 x4 x5 x6 : Value} {W w : World} (h : Sev g x0 x1 x2 x3 x4 x5 x6 W) (hb : Below B W w) (hg : g < B) : Sev g x0 x1 x2 x3 x4 x5 x6 w := by
  obtain ⟨h0, hf, h1, h2, h3, h4, h5, h6, h7⟩ := h
  exact ⟨Nat.lt_of_lt_of_le h0 hb.size, fun i => (hb.frozen (p := ⟨g, i, none⟩) hg).trans (hf i), (hb.cell (p := ⟨g, 0, none⟩) hg).trans h1, (hb.cell (p := ⟨g, 1, none⟩) hg).trans h2, (hb.cell (p := ⟨g, 2, none⟩) hg).trans h3, (hb.cell (p := ⟨g, 3, none⟩) hg).trans h4, (hb.cell (p := ⟨g, 4, none⟩) hg).trans h5, (hb.cell (p := ⟨g, 5, none⟩) hg).trans h6, (hb.cell (p := ⟨g, 6, none⟩) hg).trans h7⟩
theorem Sev.new (w : World) {g : Nat} (hg : g = w.heap.size) (x0 x1 x2 x3 x4 x5 x6 : Value) (t : TypeId) : Sev g x0 x1 x2 x3 x4 x5 x6 (w.alloc (.cells #[x0, x1, x2, x3, x4, x5, x6] t)) := by
  subst hg
  exact ⟨by simp, fun i => World.frozen?_alloc_at _ _ _ _ rfl, by rw [World.cell?_alloc_at _ _ _ _ rfl]; rfl, by rw [World.cell?_alloc_at _ _ _ _ rfl]; rfl, by rw [World.cell?_alloc_at _ _ _ _ rfl]; rfl, by rw [World.cell?_alloc_at _ _ _ _ rfl]; rfl, by rw [World.cell?_alloc_at _ _ _ _ rfl]; rfl, by rw [World.cell?_alloc_at _ _ _ _ rfl]; rfl, by rw [World.cell?_alloc_at _ _ _ _ rfl]; rfl⟩
theorem Sev.other {g : Nat} {x0 x1 x2 x3 x4 x5 x6 : Value} {w : World} (h : Sev g x0 x1 x2 x3 x4 x5 x6 w) {d : Nat} (hd : d ≠ g) (i : Nat) (v : Value) : Sev g x0 x1 x2 x3 x4 x5 x6 (w.setCell ⟨d, i, none⟩ v) := by
  obtain ⟨h0, hf, h1, h2, h3, h4, h5, h6, h7⟩ := h
  exact ⟨by simpa [World.setCell] using h0, fun i => by rw [World.frozen?_setCell]; exact hf i, by rw [World.cell?_setCell_other (h := fun e => hd (by injection e))]; exact h1, by rw [World.cell?_setCell_other (h := fun e => hd (by injection e))]; exact h2, by rw [World.cell?_setCell_other (h := fun e => hd (by injection e))]; exact h3, by rw [World.cell?_setCell_other (h := fun e => hd (by injection e))]; exact h4, by rw [World.cell?_setCell_other (h := fun e => hd (by injection e))]; exact h5, by rw [World.cell?_setCell_other (h := fun e => hd (by injection e))]; exact h6, by rw [World.cell?_setCell_other (h := fun e => hd (by injection e))]; exact h7⟩
theorem Sev.set0 {g : Nat} {x0 x1 x2 x3 x4 x5 x6 : Value} {w : World} (h : Sev g x0 x1 x2 x3 x4 x5 x6 w) (y : Value) : Sev g y x1 x2 x3 x4 x5 x6 (w.setCell ⟨g, 0, none⟩ y) := by
  obtain ⟨h0, hf, h1, h2, h3, h4, h5, h6, h7⟩ := h
  exact ⟨by simpa [World.setCell] using h0, fun i => by rw [World.frozen?_setCell]; exact hf i, by rw [World.cell?_setCell_same' _ _ _ (by rw [h1]; rfl)], by rw [World.cell?_setCell_other (h := fun e => absurd (congrArg Addr.off e) (show ¬ (0 : Nat) = 1 by decide))]; exact h2, by rw [World.cell?_setCell_other (h := fun e => absurd (congrArg Addr.off e) (show ¬ (0 : Nat) = 2 by decide))]; exact h3, by rw [World.cell?_setCell_other (h := fun e => absurd (congrArg Addr.off e) (show ¬ (0 : Nat) = 3 by decide))]; exact h4, by rw [World.cell?_setCell_other (h := fun e => absurd (congrArg Addr.off e) (show ¬ (0 : Nat) = 4 by decide))]; exact h5, by rw [World.cell?_setCell_other (h := fun e => absurd (congrArg Addr.off e) (show ¬ (0 : Nat) = 5 by decide))]; exact h6, by rw [World.cell?_setCell_other (h := fun e => absurd (congrArg Addr.off e) (show ¬ (0 : Nat) = 6 by decide))]; exact h7⟩
theorem Sev.set1 {g : Nat} {x0 x1 x2 x3 x4 x5 x6 : Value} {w : World} (h : Sev g x0 x1 x2 x3 x4 x5 x6 w) (y : Value) : Sev g x0 y x2 x3 x4 x5 x6 (w.setCell ⟨g, 1, none⟩ y) := by
  obtain ⟨h0, hf, h1, h2, h3, h4, h5, h6, h7⟩ := h
  exact ⟨by simpa [World.setCell] using h0, fun i => by rw [World.frozen?_setCell]; exact hf i, by rw [World.cell?_setCell_other (h := fun e => absurd (congrArg Addr.off e) (show ¬ (1 : Nat) = 0 by decide))]; exact h1, by rw [World.cell?_setCell_same' _ _ _ (by rw [h2]; rfl)], by rw [World.cell?_setCell_other (h := fun e => absurd (congrArg Addr.off e) (show ¬ (1 : Nat) = 2 by decide))]; exact h3, by rw [World.cell?_setCell_other (h := fun e => absurd (congrArg Addr.off e) (show ¬ (1 : Nat) = 3 by decide))]; exact h4, by rw [World.cell?_setCell_other (h := fun e => absurd (congrArg Addr.off e) (show ¬ (1 : Nat) = 4 by decide))]; exact h5, by rw [World.cell?_setCell_other (h := fun e => absurd (congrArg Addr.off e) (show ¬ (1 : Nat) = 5 by decide))]; exact h6, by rw [World.cell?_setCell_other (h := fun e => absurd (congrArg Addr.off e) (show ¬ (1 : Nat) = 6 by decide))]; exact h7⟩
theorem Sev.set2 {g : Nat} {x0 x1 x2 x3 x4 x5 x6 : Value} {w : World} (h : Sev g x0 x1 x2 x3 x4 x5 x6 w) (y : Value) : Sev g x0 x1 y x3 x4 x5 x6 (w.setCell ⟨g, 2, none⟩ y) := by
  obtain ⟨h0, hf, h1, h2, h3, h4, h5, h6, h7⟩ := h
  exact ⟨by simpa [World.setCell] using h0, fun i => by rw [World.frozen?_setCell]; exact hf i, by rw [World.cell?_setCell_other (h := fun e => absurd (congrArg Addr.off e) (show ¬ (2 : Nat) = 0 by decide))]; exact h1, by rw [World.cell?_setCell_other (h := fun e => absurd (congrArg Addr.off e) (show ¬ (2 : Nat) = 1 by decide))]; exact h2, by rw [World.cell?_setCell_same' _ _ _ (by rw [h3]; rfl)], by rw [World.cell?_setCell_other (h := fun e => absurd (congrArg Addr.off e) (show ¬ (2 : Nat) = 3 by decide))]; exact h4, by rw [World.cell?_setCell_other (h := fun e => absurd (congrArg Addr.off e) (show ¬ (2 : Nat) = 4 by decide))]; exact h5, by rw [World.cell?_setCell_other (h := fun e => absurd (congrArg Addr.off e) (show ¬ (2 : Nat) = 5 by decide))]; exact h6, by rw [World.cell?_setCell_other (h := fun e => absurd (congrArg Addr.off e) (show ¬ (2 : Nat) = 6 by decide))]; exact h7⟩
theorem Sev.set3 {g : Nat} {x0 x1 x2 x3 x4 x5 x6 : Value} {w : World} (h : Sev g x0 x1 x2 x3 x4 x5 x6 w) (y : Value) : Sev g x0 x1 x2 y x4 x5 x6 (w.setCell ⟨g, 3, none⟩ y) := by
  obtain ⟨h0, hf, h1, h2, h3, h4, h5, h6, h7⟩ := h
  exact ⟨by simpa [World.setCell] using h0, fun i => by rw [World.frozen?_setCell]; exact hf i, by rw [World.cell?_setCell_other (h := fun e => absurd (congrArg Addr.off e) (show ¬ (3 : Nat) = 0 by decide))]; exact h1, by rw [World.cell?_setCell_other (h := fun e => absurd (congrArg Addr.off e) (show ¬ (3 : Nat) = 1 by decide))]; exact h2, by rw [World.cell?_setCell_other (h := fun e => absurd (congrArg Addr.off e) (show ¬ (3 : Nat) = 2 by decide))]; exact h3, by rw [World.cell?_setCell_same' _ _ _ (by rw [h4]; rfl)], by rw [World.cell?_setCell_other (h := fun e => absurd (congrArg Addr.off e) (show ¬ (3 : Nat) = 4 by decide))]; exact h5, by rw [World.cell?_setCell_other (h := fun e => absurd (congrArg Addr.off e) (show ¬ (3 : Nat) = 5 by decide))]; exact h6, by rw [World.cell?_setCell_other (h := fun e => absurd (congrArg Addr.off e) (show ¬ (3 : Nat) = 6 by decide))]; exact h7⟩
theorem Sev.set4 {g : Nat} {x0 x1 x2 x3 x4 x5 x6 : Value} {w : World} (h : Sev g x0 x1 x2 x3 x4 x5 x6 w) (y : Value) : Sev g x0 x1 x2 x3 y x5 x6 (w.setCell ⟨g, 4, none⟩ y) := by
  obtain ⟨h0, hf, h1, h2, h3, h4, h5, h6, h7⟩ := h
  exact ⟨by simpa [World.setCell] using h0, fun i => by rw [World.frozen?_setCell]; exact hf i, by rw [World.cell?_setCell_other (h := fun e => absurd (congrArg Addr.off e) (show ¬ (4 : Nat) = 0 by decide))]; exact h1, by rw [World.cell?_setCell_other (h := fun e => absurd (congrArg Addr.off e) (show ¬ (4 : Nat) = 1 by decide))]; exact h2, by rw [World.cell?_setCell_other (h := fun e => absurd (congrArg Addr.off e) (show ¬ (4 : Nat) = 2 by decide))]; exact h3, by rw [World.cell?_setCell_other (h := fun e => absurd (congrArg Addr.off e) (show ¬ (4 : Nat) = 3 by decide))]; exact h4, by rw [World.cell?_setCell_same' _ _ _ (by rw [h5]; rfl)], by rw [World.cell?_setCell_other (h := fun e => absurd (congrArg Addr.off e) (show ¬ (4 : Nat) = 5 by decide))]; exact h6, by rw [World.cell?_setCell_other (h := fun e => absurd (congrArg Addr.off e) (show ¬ (4 : Nat) = 6 by decide))]; exact h7⟩
theorem Sev.set5 {g : Nat} {x0 x1 x2 x3 x4 x5 x6 : Value} {w : World} (h : Sev g x0 x1 x2 x3 x4 x5 x6 w) (y : Value) : Sev g x0 x1 x2 x3 x4 y x6 (w.setCell ⟨g, 5, none⟩ y) := by
  obtain ⟨h0, hf, h1, h2, h3, h4, h5, h6, h7⟩ := h
  exact ⟨by simpa [World.setCell] using h0, fun i => by rw [World.frozen?_setCell]; exact hf i, by rw [World.cell?_setCell_other (h := fun e => absurd (congrArg Addr.off e) (show ¬ (5 : Nat) = 0 by decide))]; exact h1, by rw [World.cell?_setCell_other (h := fun e => absurd (congrArg Addr.off e) (show ¬ (5 : Nat) = 1 by decide))]; exact h2, by rw [World.cell?_setCell_other (h := fun e => absurd (congrArg Addr.off e) (show ¬ (5 : Nat) = 2 by decide))]; exact h3, by rw [World.cell?_setCell_other (h := fun e => absurd (congrArg Addr.off e) (show ¬ (5 : Nat) = 3 by decide))]; exact h4, by rw [World.cell?_setCell_other (h := fun e => absurd (congrArg Addr.off e) (show ¬ (5 : Nat) = 4 by decide))]; exact h5, by rw [World.cell?_setCell_same' _ _ _ (by rw [h6]; rfl)], by rw [World.cell?_setCell_other (h := fun e => absurd (congrArg Addr.off e) (show ¬ (5 : Nat) = 6 by decide))]; exact h7⟩
theorem Sev.set6 {g : Nat} {x0 x1 x2 x3 x4 x5 x6 : Value} {w : World} (h : Sev g x0 x1 x2 x3 x4 x5 x6 w) (y : Value) : Sev g x0 x1 x2 x3 x4 x5 y (w.setCell ⟨g, 6, none⟩ y) := by
  obtain ⟨h0, hf, h1, h2, h3, h4, h5, h6, h7⟩ := h
  exact ⟨by simpa [World.setCell] using h0, fun i => by rw [World.frozen?_setCell]; exact hf i, by rw [World.cell?_setCell_other (h := fun e => absurd (congrArg Addr.off e) (show ¬ (6 : Nat) = 0 by decide))]; exact h1, by rw [World.cell?_setCell_other (h := fun e => absurd (congrArg Addr.off e) (show ¬ (6 : Nat) = 1 by decide))]; exact h2, by rw [World.cell?_setCell_other (h := fun e => absurd (congrArg Addr.off e) (show ¬ (6 : Nat) = 2 by decide))]; exact h3, by rw [World.cell?_setCell_other (h := fun e => absurd (congrArg Addr.off e) (show ¬ (6 : Nat) = 3 by decide))]; exact h4, by rw [World.cell?_setCell_other (h := fun e => absurd (congrArg Addr.off e) (show ¬ (6 : Nat) = 4 by decide))]; exact h5, by rw [World.cell?_setCell_other (h := fun e => absurd (congrArg Addr.off e) (show ¬ (6 : Nat) = 5 by decide))]; exact h6, by rw [World.cell?_setCell_same' _ _ _ (by rw [h7]; rfl)]⟩
theorem ownsRow_set {w : World} {B e s n : Nat} {v : Value} {xs : List Value} (h : w.ownsRow B e s v n xs) {a : Addr} (ha : a.block < B) (u : Value) : (w.setCell a u).ownsRow B e s v n xs := by
  refine ⟨h.1, ?_⟩
  rcases h.2 with hn | ⟨g, cap, cur, hv, hB, hg, h1, h2, h3, h4⟩
  · exact .inl hn
  · exact .inr ⟨g, cap, cur, hv, hB, (Go.Deep.blk_setCell_other w a u g (by omega)).trans hg, h1, h2, h3, h4⟩
theorem ownsRow_below {w w2 : World} {B e s n : Nat} {v : Value} {xs : List Value} (h : w.ownsRow B e s v n xs) (hb : Below w.heap.size w w2) : w2.ownsRow B e s v n xs := by
  have hlt := h.lt
  refine ⟨h.1, ?_⟩
  rcases h.2 with hn | ⟨g, cap, cur, hv, hB, hg, h1, h2, h3, h4⟩
  · exact .inl hn
  · have h5 : g < w.heap.size := (hlt g (by rw [hv]; rfl)).2
    exact .inr ⟨g, cap, cur, hv, hB, (hb.block g h5).trans hg, h1, h2, h3, h4⟩
theorem cells_later {W w : World} {p : Option Addr} {cs : List Value} (hx : ∀ j u, cs[j]? = some u → ∃ a, p = some a ∧ W.cell? (a.add j) = some u) (hb : Below W.heap.size W w) : ∀ j u, cs[j]? = some u → ∃ a, p = some a ∧ w.cell? (a.add j) = some u := fun j u h => by
  obtain ⟨a, e, hc⟩ := hx j u h
  exact ⟨a, e, (hb.cell (p := a.add j) (block_lt hc)).trans hc⟩
theorem mapC_one (l : List Int) : ∀ u ∈ l.map (Value.int .i64), u.oneCell' = true := by
  intro u hu
  obtain ⟨v, _, rfl⟩ := List.mem_map.1 hu
  rfl
theorem row_slice {w : World} {B : Nat} {e : TypeId} {m n : Nat} {v : Value} {xs : List Value} (h : w.ownsRow B e m v n xs) : ∃ (p : Option Addr) (c : Nat), v = .slice p n c := by
  rcases h.2 with ⟨rfl, rfl⟩ | ⟨g, cap, cur, rfl, _⟩
  · exact ⟨none, 0, rfl⟩
  · exact ⟨_, cap, rfl⟩

set_option maxRecDepth 100000 in
set_option maxHeartbeats 2000000 in
theorem copyInstr_any (B : Nat) (d : Ins) (ts : List Int) (W : World) (hB : B ≤ W.heap.size) (hd : ArgsAt B W d) (ht : IntsAt B W d.tp d.tl d.tc ts) (ha : d.args.length ≤ 1048576) (hl : ts.length ≤ 1048576) :
    Calls Try.prog 73 #[d.val] W fun e w' => ∃ ap ac tp tc, e = .returned (d.with ap ac tp tc).val ∧ Past W.heap.size W w' ∧
      w'.ownsRow W.heap.size 55 3 (.slice ap d.args.length ac) d.args.length (d.args.flatMap argC) ∧ w'.ownsRow W.heap.size 3 1 (.slice tp ts.length tc) ts.length (ts.map (Value.int .i64)) := by
  have hx1 := args_cells hd
  have hx2 := ints_cells ht
  obtain ⟨e1, -, -, -⟩ := id hd
  obtain ⟨e2, -, -, -⟩ := id ht
  obtain ⟨op, rg, ty, nn, fl, ap, al, ac, tp, tl, tc, args⟩ := d
  simp only [] at *
  subst e1 e2
  unfold Ins.with Ins.val
  simp only []
  have P0 := (Past.refl (Nat.le_refl W.heap.size)).alloc (.cells #[.int .i64 op, .int .i64 rg, .int .i64 ty, .int .i64 nn, .int .i64 fl, .slice ap args.length ac, .slice tp ts.length tc] 25)
  go_enter Try.func73, Try.ntmps73
  go_wp2_with fail
  have S0 : Sev W.heap.size (.int .i64 op) (.int .i64 rg) (.int .i64 ty) (.int .i64 nn) (.int .i64 fl) (.slice ap args.length ac) (.slice tp ts.length tc) ((W.alloc (.cells #[.int .i64 op, .int .i64 rg, .int .i64 ty, .int .i64 nn, .int .i64 fl, .slice ap args.length ac, .slice tp ts.length tc] 25)).alloc (.cells #[.int .i64 0, .int .i64 0, .int .i64 0, .int .i64 0, .int .i64 0, .slice none 0 0, .slice none 0 0] 25)) :=
    (Sev.new W rfl _ _ _ _ _ _ _ _).below ((Below.refl (W.heap.size + 1) _).alloc (by simp) _) (Nat.lt_succ_self _)
  have R0 : Sev (W.heap.size + 1) (.int .i64 0) (.int .i64 0) (.int .i64 0) (.int .i64 0) (.int .i64 0) (.slice none 0 0) (.slice none 0 0) ((W.alloc (.cells #[.int .i64 op, .int .i64 rg, .int .i64 ty, .int .i64 nn, .int .i64 fl, .slice ap args.length ac, .slice tp ts.length tc] 25)).alloc (.cells #[.int .i64 0, .int .i64 0, .int .i64 0, .int .i64 0, .int .i64 0, .slice none 0 0, .slice none 0 0] 25)) :=
    Sev.new _ (by simp) _ _ _ _ _ _ _ _
  have P1 := P0.alloc (.cells #[.int .i64 0, .int .i64 0, .int .i64 0, .int .i64 0, .int .i64 0, .slice none 0 0, .slice none 0 0] 25)
  have z2 : ((W.alloc (.cells #[.int .i64 op, .int .i64 rg, .int .i64 ty, .int .i64 nn, .int .i64 fl, .slice ap args.length ac, .slice tp ts.length tc] 25)).alloc (.cells #[.int .i64 0, .int .i64 0, .int .i64 0, .int .i64 0, .int .i64 0, .slice none 0 0, .slice none 0 0] 25)).heap.size = W.heap.size + 2 := by simp
  generalize ((W.alloc (.cells #[.int .i64 op, .int .i64 rg, .int .i64 ty, .int .i64 nn, .int .i64 fl, .slice ap args.length ac, .slice tp ts.length tc] 25)).alloc (.cells #[.int .i64 0, .int .i64 0, .int .i64 0, .int .i64 0, .int .i64 0, .slice none 0 0, .slice none 0 0] 25)) = W2 at *
  refine (copyList_V ap args.length ac (args.flatMap argC) W2 (argC_len _) (cells_later hx1 P1.2) (argC_one _) ha).mono ?_
  rintro e w3 ⟨v3, rfl, hb3, hrow3⟩
  obtain ⟨q3, c3, rfl⟩ := row_slice hrow3
  rw [z2] at hrow3
  have S3 := S0.below hb3.2 (by omega)
  have R3 := R0.below hb3.2 (by omega)
  have P3 := P1.trans ⟨P1.size, hb3.2.mono P1.size⟩
  have z3 := hb3.size
  have S4 := S3.set5 (.slice q3 args.length c3)
  have R4 := R3.other (d := W.heap.size) (by omega) 5 (.slice q3 args.length c3)
  have P4 := P3.set (a := ⟨W.heap.size, 5, none⟩) (Nat.le_refl _) (.slice q3 args.length c3)
  have hrow4 := ownsRow_set hrow3 (a := ⟨W.heap.size, 5, none⟩) (by dsimp only; omega) (.slice q3 args.length c3)
  have z4 : (w3.setCell ⟨W.heap.size, 5, none⟩ (.slice q3 args.length c3)).heap.size = w3.heap.size := by simp [World.setCell]
  obtain ⟨s0, sf, s1, s2, s3, s4, s5, s6, s7⟩ := id S3
  obtain ⟨t0, tf, t1, t2, t3, t4, t5, t6, t7⟩ := id S4
  clear S0 R0 S3 R3 P1 P3 P0
  go_wp2_with fail
  generalize w3.setCell ⟨W.heap.size, 5, none⟩ (.slice q3 args.length c3) = W4 at *
  refine (copyList_N tp ts.length tc (ts.map (Value.int .i64)) W4 (by rw [List.length_map, Nat.mul_one]) (cells_later hx2 P4.2) (mapC_one _) hl).mono ?_
  rintro e w5 ⟨v5, rfl, hb5, hrow5⟩
  obtain ⟨q5, c5, rfl⟩ := row_slice hrow5
  have S5 := S4.below hb5.2 (by omega)
  have R5 := R4.below hb5.2 (by omega)
  have P5 := P4.trans ⟨P4.size, hb5.2.mono P4.size⟩
  have hrow4' := ownsRow_below hrow4 hb5.2
  have S6 := S5.set6 (.slice q5 ts.length c5)
  have R6 := R5.other (d := W.heap.size) (by omega) 6 (.slice q5 ts.length c5)
  have P6 := P5.set (a := ⟨W.heap.size, 6, none⟩) (Nat.le_refl _) (.slice q5 ts.length c5)
  have hrow6 := ownsRow_set hrow4' (a := ⟨W.heap.size, 6, none⟩) (by dsimp only; omega) (.slice q5 ts.length c5)
  have hrow7 := ownsRow_set hrow5 (a := ⟨W.heap.size, 6, none⟩) (by dsimp only; omega) (.slice q5 ts.length c5)
  obtain ⟨a0, af, a1, a2, a3, a4, a5, a6, a7⟩ := id S5
  obtain ⟨b0, bf, b1, b2, b3, b4, b5, b6, b7⟩ := id S6
  obtain ⟨r0, rf, r1, r2, r3, r4, r5, r6, r7⟩ := id R6
  clear s0 sf s1 s2 s3 s4 s5 s6 s7 t0 tf t1 t2 t3 t4 t5 t6 t7 S4 R4 P4 S5 R5 P5 hrow3 hrow4 hrow4' hrow5 hx1 hx2
  go_wp2_with fail
  generalize w5.setCell ⟨W.heap.size, 6, none⟩ (.slice q5 ts.length c5) = w6 at *
  have RF := (((((((R6.set0 (.int .i64 op)).set1 (.int .i64 rg)).set2 (.int .i64 ty)).set3 (.int .i64 nn)).set4 (.int .i64 fl)).set5 (.slice q3 args.length c3)).set6 (.slice q5 ts.length c5))
  obtain ⟨f0, ff, f1, f2, f3, f4, f5, f6, f7⟩ := RF
  refine bodyPost_ret (v := .agg #[.int .i64 op, .int .i64 rg, .int .i64 ty, .int .i64 nn, .int .i64 fl, .slice q3 args.length c3, .slice q5 ts.length c5]) (by simp [results, Try.results73, go_sem, f1, f2, f3, f4, f5, f6, f7]) rfl ⟨q3, c3, q5, c5, rfl, (((((((P6.set (a := ⟨W.heap.size + 1, 0, none⟩) (by dsimp only; omega) (.int .i64 op)).set (a := ⟨W.heap.size + 1, 1, none⟩) (by dsimp only; omega) (.int .i64 rg)).set (a := ⟨W.heap.size + 1, 2, none⟩) (by dsimp only; omega) (.int .i64 ty)).set (a := ⟨W.heap.size + 1, 3, none⟩) (by dsimp only; omega) (.int .i64 nn)).set (a := ⟨W.heap.size + 1, 4, none⟩) (by dsimp only; omega) (.int .i64 fl)).set (a := ⟨W.heap.size + 1, 5, none⟩) (by dsimp only; omega) (.slice q3 args.length c3)).set (a := ⟨W.heap.size + 1, 6, none⟩) (by dsimp only; omega) (.slice q5 ts.length c5)), ?_, ?_⟩
  · exact World.ownsRow.mono (ownsRow_set (ownsRow_set (ownsRow_set (ownsRow_set (ownsRow_set (ownsRow_set (ownsRow_set hrow6 (a := ⟨W.heap.size + 1, 0, none⟩) (by dsimp only; omega) (.int .i64 op)) (a := ⟨W.heap.size + 1, 1, none⟩) (by dsimp only; omega) (.int .i64 rg)) (a := ⟨W.heap.size + 1, 2, none⟩) (by dsimp only; omega) (.int .i64 ty)) (a := ⟨W.heap.size + 1, 3, none⟩) (by dsimp only; omega) (.int .i64 nn)) (a := ⟨W.heap.size + 1, 4, none⟩) (by dsimp only; omega) (.int .i64 fl)) (a := ⟨W.heap.size + 1, 5, none⟩) (by dsimp only; omega) (.slice q3 args.length c3)) (a := ⟨W.heap.size + 1, 6, none⟩) (by dsimp only; omega) (.slice q5 ts.length c5)) (by omega)
  · exact World.ownsRow.mono (ownsRow_set (ownsRow_set (ownsRow_set (ownsRow_set (ownsRow_set (ownsRow_set (ownsRow_set hrow7 (a := ⟨W.heap.size + 1, 0, none⟩) (by dsimp only; omega) (.int .i64 op)) (a := ⟨W.heap.size + 1, 1, none⟩) (by dsimp only; omega) (.int .i64 rg)) (a := ⟨W.heap.size + 1, 2, none⟩) (by dsimp only; omega) (.int .i64 ty)) (a := ⟨W.heap.size + 1, 3, none⟩) (by dsimp only; omega) (.int .i64 nn)) (a := ⟨W.heap.size + 1, 4, none⟩) (by dsimp only; omega) (.int .i64 fl)) (a := ⟨W.heap.size + 1, 5, none⟩) (by dsimp only; omega) (.slice q3 args.length c3)) (a := ⟨W.heap.size + 1, 6, none⟩) (by dsimp only; omega) (.slice q5 ts.length c5)) (by omega)
end Go.Proofs.Ytpfeiolmkbibiaa
