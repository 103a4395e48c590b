/- Contract of the document's answers (package latheref01): exact. -/
import Derived.Test.YthhdgfhndijmeaaRefH
namespace Go.Proofs.Ythhdgfhndijmeaa
open Go.RowKit
set_option linter.unusedVariables false
set_option linter.unusedSimpArgs false

/-- A block of three cells that may be written. -/
def Blk (w : World) (g : Nat) (A B C : Value) : Prop :=
  g < w.heap.size ∧ w.cell? ⟨g, 0, none⟩ = some A ∧ w.cell? ⟨g, 1, none⟩ = some B ∧ w.cell? ⟨g, 2, none⟩ = some C ∧ ∀ i, w.frozen? ⟨g, i, none⟩ = false
theorem Blk.kept {w w' : World} {g : Nat} {A B C : Value} (h : Blk w g A B C) (k : Kept w w') : Blk w' g A B C := by
  obtain ⟨h0, h1, h2, h3, h4⟩ := h
  have hs := k.1.size
  exact ⟨by omega, by rw [(bcell k).1 _ _ h0]; exact h1, by rw [(bcell k).1 _ _ h0]; exact h2, by rw [(bcell k).1 _ _ h0]; exact h3, fun i => by rw [(bcell k).2 _ _ h0]; exact h4 i⟩
theorem Blk.new (w : World) (A B C : Value) (t : TypeId) : Blk (w.alloc (.cells #[A, B, C] t)) w.heap.size A B C :=
  ⟨by simp, by rw [World.cell?_alloc_at _ _ _ _ rfl]; rfl, by rw [World.cell?_alloc_at _ _ _ _ rfl]; rfl, by rw [World.cell?_alloc_at _ _ _ _ rfl]; rfl, fun i => World.frozen?_alloc_at _ _ _ _ rfl⟩
theorem Blk.alloc {w : World} {g : Nat} {A B C : Value} (h : Blk w g A B C) (c : Array Value) (t : TypeId) : Blk (w.alloc (.cells c t)) g A B C := h.kept ((Kept.refl w).alloc c t)
/-- All three cells written anew. -/
def set3 (w : World) (g : Nat) (A B C : Value) : World := ((w.setCell ⟨g, 0, none⟩ A).setCell ⟨g, 1, none⟩ B).setCell ⟨g, 2, none⟩ C
theorem Blk.set {w : World} {g : Nat} {A B C : Value} (h : Blk w g A B C) (A' B' C' : Value) : Blk (set3 w g A' B' C') g A' B' C' := by
  obtain ⟨h0, h1, h2, h3, h4⟩ := h
  have ne : ∀ i j : Nat, i ≠ j → (⟨g, i, none⟩ : Addr) ≠ ⟨g, j, none⟩ := fun i j h h2 => h (by injection h2)
  unfold set3
  refine ⟨by simpa [World.setCell] using h0, ?_, ?_, ?_, fun i => by simp only [World.frozen?_setCell]; exact h4 i⟩
  · rw [World.cell?_setCell_other (h := ne 2 0 (by decide)), World.cell?_setCell_other (h := ne 1 0 (by decide)), World.cell?_setCell_same' _ _ _ (by rw [h1]; rfl)]
  · rw [World.cell?_setCell_other (h := ne 2 1 (by decide)), World.cell?_setCell_same' _ _ _ (by rw [World.cell?_setCell_other (h := ne 0 1 (by decide)), h2]; rfl)]
  · rw [World.cell?_setCell_same' _ _ _ (by rw [World.cell?_setCell_other (h := ne 1 2 (by decide)), World.cell?_setCell_other (h := ne 0 2 (by decide)), h3]; rfl)]
theorem Blk.far {w : World} {g : Nat} {A B C : Value} (h : Blk w g A B C) {k : Nat} (hk : k ≠ g) (A' B' C' : Value) : Blk (set3 w k A' B' C') g A B C := by
  obtain ⟨h0, h1, h2, h3, h4⟩ := h
  unfold set3
  refine ⟨by simpa [World.setCell] using h0, ?_, ?_, ?_, fun i => by simp only [World.frozen?_setCell]; exact h4 i⟩ <;>
    (rw [World.cell?_setCell_far _ _ _ _ hk, World.cell?_setCell_far _ _ _ _ hk, World.cell?_setCell_far _ _ _ _ hk]; assumption)
theorem Kept.set3 {W w : World} (h : Kept W w) {g : Nat} (hg : W.heap.size ≤ g) (A B C : Value) : Kept W (set3 w g A B C) := ((h.setCell hg A).setCell hg B).setCell hg C
theorem ksz {L w : World} {c : Array Value} {t : TypeId} (h : Kept (L.alloc (.cells c t)) w) : L.heap.size < w.heap.size := by
  have := h.1.size; simp at this; omega

set_option maxHeartbeats 2000000 in
theorem exact_1f (w a b Z0 Z1 P0 P1 Q0 Q1 : Int) (Z2 P2 Q2 : Bool) (W : World)
    (c1 : Makes 47 #[.int .i64 w, .int .u64 a] (.agg #[.int .u64 P0, .int .u64 P1, .bool P2]))
    (c2 : Makes 47 #[.int .i64 w, .int .u64 b] (.agg #[.int .u64 Q0, .int .u64 Q1, .bool Q2]))
    (c5 : Makes 51 #[.agg #[.int .u64 P0, .int .u64 P1, .bool P2], .agg #[.int .u64 Q0, .int .u64 Q1, .bool Q2]] (.agg #[.int .u64 Z0, .int .u64 Z1, .bool Z2])) :
    Calls Try.prog 45 #[.int .i64 1, .int .i64 w, .int .u64 a, .int .u64 b, .bool false] W fun e w' => e = .returned (.agg #[.int .u64 Z0, .int .u64 Z1, .bool Z2]) ∧ Kept W w' := by
    go_enter Try.func45, Try.ntmps45
    go_upto_region 7 with (first
      | ((with_reducible refine (c1.go _).mono ?_); rintro e w1 ⟨rfl, hb1⟩
         have hz1 := ksz hb1
         have R1 := (Blk.new _ _ _ _ _).kept hb1
         have K1 := ((Kept.refl W).alloc _ _).trans hb1)
      | ((with_reducible refine (c2.go _).mono ?_); rintro e w2 ⟨rfl, hb2⟩
         have hz2 := ksz hb2
         have R2 := (R1.alloc _ _).kept hb2
         have B2 := (Blk.new _ _ _ _ _).kept hb2
         have K2 := (K1.alloc _ _).trans hb2))
    go_cut [11, 12, 28] (fun s11 s12 s28 wx => s28 = .int .i64 1 ∧ ∃ gx gy : Nat, s11 = .pointer (some ⟨gx, 0, none⟩) ∧ s12 = .pointer (some ⟨gy, 0, none⟩) ∧ Blk wx W.heap.size (.int .u64 0) (.int .u64 0) (.bool false) ∧
      Blk wx gx (.int .u64 P0) (.int .u64 P1) (.bool P2) ∧ Blk wx gy (.int .u64 Q0) (.int .u64 Q1) (.bool Q2) ∧ W.heap.size < gx ∧ W.heap.size < gy ∧ Kept W wx)
    case first => go_wp2_with fail; go_meet; exact ⟨rfl, _, _, rfl, rfl, R2.alloc _ _, B2.alloc _ _, Blk.new _ _ _ _ _, by omega, by omega, K2.alloc _ _⟩
    case rest =>
      obtain ⟨rfl, gx, gy, rfl, rfl, R, B, C, hx, hy, K⟩ := hcut
      obtain ⟨x_s, x_0, x_1, x_2, x_f⟩ := B
      obtain ⟨y_s, y_0, y_1, y_2, y_f⟩ := C
      obtain ⟨wq, rfl⟩ : ∃ wq : World, wq = wc := ⟨_, rfl⟩
      go_wp2_with ((with_reducible refine (c5.go _).mono ?_); rintro e w5 ⟨rfl, hb5⟩
                   have R5 := R.kept hb5
                   obtain ⟨r_s, r_0, r_1, r_2, r_f⟩ := id R5)
      have R6 := R5.set (.int .u64 Z0) (.int .u64 Z1) (.bool Z2)
      obtain ⟨t_s, t_0, t_1, t_2, t_f⟩ := R6
      refine bodyPost_ret (v := .agg #[.int .u64 Z0, .int .u64 Z1, .bool Z2]) (by simp [results, Try.results45, go_sem, r_0, r_1, r_2]) rfl ⟨rfl, ?_⟩
      exact (K.trans hb5).set3 (g := W.heap.size) (by omega) _ _ _
set_option maxHeartbeats 2000000 in
theorem exact_1t (w a b X0 X1 Y0 Y1 Z0 Z1 P0 P1 Q0 Q1 : Int) (X2 Y2 Z2 P2 Q2  : Bool) (W : World)
    (c1 : Makes 47 #[.int .i64 w, .int .u64 a] (.agg #[.int .u64 P0, .int .u64 P1, .bool P2]))
    (c2 : Makes 47 #[.int .i64 w, .int .u64 b] (.agg #[.int .u64 Q0, .int .u64 Q1, .bool Q2]))
    (c3 : Makes 37 #[.int .i64 w, .int .u64 a] (.agg #[.int .u64 X0, .int .u64 X1, .bool X2]))
    (c4 : Makes 37 #[.int .i64 w, .int .u64 b] (.agg #[.int .u64 Y0, .int .u64 Y1, .bool Y2]))
    (c5 : Makes 51 #[.agg #[.int .u64 X0, .int .u64 X1, .bool X2], .agg #[.int .u64 Y0, .int .u64 Y1, .bool Y2]] (.agg #[.int .u64 Z0, .int .u64 Z1, .bool Z2])) :
    Calls Try.prog 45 #[.int .i64 1, .int .i64 w, .int .u64 a, .int .u64 b, .bool true] W fun e w' => e = .returned (.agg #[.int .u64 Z0, .int .u64 Z1, .bool Z2]) ∧ Kept W w' := by
    go_enter Try.func45, Try.ntmps45
    go_upto_region 7 with (first
      | ((with_reducible refine (c1.go _).mono ?_); rintro e w1 ⟨rfl, hb1⟩
         have hz1 := ksz hb1
         have R1 := (Blk.new _ _ _ _ _).kept hb1
         have K1 := ((Kept.refl W).alloc _ _).trans hb1)
      | ((with_reducible refine (c2.go _).mono ?_); rintro e w2 ⟨rfl, hb2⟩
         have hz2 := ksz hb2
         have R2 := (R1.alloc _ _).kept hb2
         have B2 := (Blk.new _ _ _ _ _).kept hb2
         have K2 := (K1.alloc _ _).trans hb2)
      | ((with_reducible refine (c3.go _).mono ?_); rintro e w3 ⟨rfl, hb3⟩
         have hz3 := ksz hb3
         have R3 := (R2.alloc _ _).kept hb3
         have B3 := (B2.alloc _ _).kept hb3
         have C3 := (Blk.new _ _ _ _ _).kept hb3
         have K3 := (K2.alloc _ _).trans hb3
         obtain ⟨x_s, x_0, x_1, x_2, x_f⟩ := id B3)
      | ((with_reducible refine (c4.go _).mono ?_); rintro e w4 ⟨rfl, hb4⟩
         have R4 := (R3.far (k := w1.heap.size) (by omega) _ _ _).kept hb4
         have B4 := (B3.set _ _ _).kept hb4
         have C4 := (C3.far (k := w1.heap.size) (by omega) _ _ _).kept hb4
         have K4 := (K3.set3 (g := w1.heap.size) (by omega) _ _ _).trans hb4
         obtain ⟨y_s, y_0, y_1, y_2, y_f⟩ := id C4))
    go_cut [11, 12, 28] (fun s11 s12 s28 wx => s28 = .int .i64 1 ∧ ∃ gx gy : Nat, s11 = .pointer (some ⟨gx, 0, none⟩) ∧ s12 = .pointer (some ⟨gy, 0, none⟩) ∧ Blk wx W.heap.size (.int .u64 0) (.int .u64 0) (.bool false) ∧
      Blk wx gx (.int .u64 X0) (.int .u64 X1) (.bool X2) ∧ Blk wx gy (.int .u64 Y0) (.int .u64 Y1) (.bool Y2) ∧ W.heap.size < gx ∧ W.heap.size < gy ∧ Kept W wx)
    case first => go_wp2_with fail; go_meet; exact ⟨rfl, _, _, rfl, rfl, R4.far (k := w2.heap.size) (by omega) _ _ _, B4.far (k := w2.heap.size) (by omega) _ _ _, C4.set _ _ _, by omega, by omega, K4.set3 (g := w2.heap.size) (by omega) _ _ _⟩
    case rest =>
      obtain ⟨rfl, gx, gy, rfl, rfl, R, B, C, hx, hy, K⟩ := hcut
      obtain ⟨x_s, x_0, x_1, x_2, x_f⟩ := B
      obtain ⟨y_s, y_0, y_1, y_2, y_f⟩ := C
      obtain ⟨wq, rfl⟩ : ∃ wq : World, wq = wc := ⟨_, rfl⟩
      go_wp2_with ((with_reducible refine (c5.go _).mono ?_); rintro e w5 ⟨rfl, hb5⟩
                   have R5 := R.kept hb5
                   obtain ⟨r_s, r_0, r_1, r_2, r_f⟩ := id R5)
      have R6 := R5.set (.int .u64 Z0) (.int .u64 Z1) (.bool Z2)
      obtain ⟨t_s, t_0, t_1, t_2, t_f⟩ := R6
      refine bodyPost_ret (v := .agg #[.int .u64 Z0, .int .u64 Z1, .bool Z2]) (by simp [results, Try.results45, go_sem, r_0, r_1, r_2]) rfl ⟨rfl, ?_⟩
      exact (K.trans hb5).set3 (g := W.heap.size) (by omega) _ _ _
set_option maxHeartbeats 2000000 in
theorem exact_3f (w a b Z0 Z1 P0 P1 Q0 Q1 : Int) (Z2 P2 Q2 : Bool) (W : World)
    (c1 : Makes 47 #[.int .i64 w, .int .u64 a] (.agg #[.int .u64 P0, .int .u64 P1, .bool P2]))
    (c2 : Makes 47 #[.int .i64 w, .int .u64 b] (.agg #[.int .u64 Q0, .int .u64 Q1, .bool Q2]))
    (c5 : Makes 58 #[.agg #[.int .u64 P0, .int .u64 P1, .bool P2], .agg #[.int .u64 Q0, .int .u64 Q1, .bool Q2]] (.agg #[.int .u64 Z0, .int .u64 Z1, .bool Z2])) :
    Calls Try.prog 45 #[.int .i64 3, .int .i64 w, .int .u64 a, .int .u64 b, .bool false] W fun e w' => e = .returned (.agg #[.int .u64 Z0, .int .u64 Z1, .bool Z2]) ∧ Kept W w' := by
    go_enter Try.func45, Try.ntmps45
    go_upto_region 7 with (first
      | ((with_reducible refine (c1.go _).mono ?_); rintro e w1 ⟨rfl, hb1⟩
         have hz1 := ksz hb1
         have R1 := (Blk.new _ _ _ _ _).kept hb1
         have K1 := ((Kept.refl W).alloc _ _).trans hb1)
      | ((with_reducible refine (c2.go _).mono ?_); rintro e w2 ⟨rfl, hb2⟩
         have hz2 := ksz hb2
         have R2 := (R1.alloc _ _).kept hb2
         have B2 := (Blk.new _ _ _ _ _).kept hb2
         have K2 := (K1.alloc _ _).trans hb2))
    go_cut [11, 12, 28] (fun s11 s12 s28 wx => s28 = .int .i64 3 ∧ ∃ gx gy : Nat, s11 = .pointer (some ⟨gx, 0, none⟩) ∧ s12 = .pointer (some ⟨gy, 0, none⟩) ∧ Blk wx W.heap.size (.int .u64 0) (.int .u64 0) (.bool false) ∧
      Blk wx gx (.int .u64 P0) (.int .u64 P1) (.bool P2) ∧ Blk wx gy (.int .u64 Q0) (.int .u64 Q1) (.bool Q2) ∧ W.heap.size < gx ∧ W.heap.size < gy ∧ Kept W wx)
    case first => go_wp2_with fail; go_meet; exact ⟨rfl, _, _, rfl, rfl, R2.alloc _ _, B2.alloc _ _, Blk.new _ _ _ _ _, by omega, by omega, K2.alloc _ _⟩
    case rest =>
      obtain ⟨rfl, gx, gy, rfl, rfl, R, B, C, hx, hy, K⟩ := hcut
      obtain ⟨x_s, x_0, x_1, x_2, x_f⟩ := B
      obtain ⟨y_s, y_0, y_1, y_2, y_f⟩ := C
      obtain ⟨wq, rfl⟩ : ∃ wq : World, wq = wc := ⟨_, rfl⟩
      go_wp2_with ((with_reducible refine (c5.go _).mono ?_); rintro e w5 ⟨rfl, hb5⟩
                   have R5 := R.kept hb5
                   obtain ⟨r_s, r_0, r_1, r_2, r_f⟩ := id R5)
      have R6 := R5.set (.int .u64 Z0) (.int .u64 Z1) (.bool Z2)
      obtain ⟨t_s, t_0, t_1, t_2, t_f⟩ := R6
      refine bodyPost_ret (v := .agg #[.int .u64 Z0, .int .u64 Z1, .bool Z2]) (by simp [results, Try.results45, go_sem, r_0, r_1, r_2]) rfl ⟨rfl, ?_⟩
      exact (K.trans hb5).set3 (g := W.heap.size) (by omega) _ _ _
set_option maxHeartbeats 2000000 in
theorem exact_3t (w a b X0 X1 Y0 Y1 Z0 Z1 P0 P1 Q0 Q1 : Int) (X2 Y2 Z2 P2 Q2  : Bool) (W : World)
    (c1 : Makes 47 #[.int .i64 w, .int .u64 a] (.agg #[.int .u64 P0, .int .u64 P1, .bool P2]))
    (c2 : Makes 47 #[.int .i64 w, .int .u64 b] (.agg #[.int .u64 Q0, .int .u64 Q1, .bool Q2]))
    (c3 : Makes 37 #[.int .i64 w, .int .u64 a] (.agg #[.int .u64 X0, .int .u64 X1, .bool X2]))
    (c4 : Makes 37 #[.int .i64 w, .int .u64 b] (.agg #[.int .u64 Y0, .int .u64 Y1, .bool Y2]))
    (c5 : Makes 58 #[.agg #[.int .u64 X0, .int .u64 X1, .bool X2], .agg #[.int .u64 Y0, .int .u64 Y1, .bool Y2]] (.agg #[.int .u64 Z0, .int .u64 Z1, .bool Z2])) :
    Calls Try.prog 45 #[.int .i64 3, .int .i64 w, .int .u64 a, .int .u64 b, .bool true] W fun e w' => e = .returned (.agg #[.int .u64 Z0, .int .u64 Z1, .bool Z2]) ∧ Kept W w' := by
    go_enter Try.func45, Try.ntmps45
    go_upto_region 7 with (first
      | ((with_reducible refine (c1.go _).mono ?_); rintro e w1 ⟨rfl, hb1⟩
         have hz1 := ksz hb1
         have R1 := (Blk.new _ _ _ _ _).kept hb1
         have K1 := ((Kept.refl W).alloc _ _).trans hb1)
      | ((with_reducible refine (c2.go _).mono ?_); rintro e w2 ⟨rfl, hb2⟩
         have hz2 := ksz hb2
         have R2 := (R1.alloc _ _).kept hb2
         have B2 := (Blk.new _ _ _ _ _).kept hb2
         have K2 := (K1.alloc _ _).trans hb2)
      | ((with_reducible refine (c3.go _).mono ?_); rintro e w3 ⟨rfl, hb3⟩
         have hz3 := ksz hb3
         have R3 := (R2.alloc _ _).kept hb3
         have B3 := (B2.alloc _ _).kept hb3
         have C3 := (Blk.new _ _ _ _ _).kept hb3
         have K3 := (K2.alloc _ _).trans hb3
         obtain ⟨x_s, x_0, x_1, x_2, x_f⟩ := id B3)
      | ((with_reducible refine (c4.go _).mono ?_); rintro e w4 ⟨rfl, hb4⟩
         have R4 := (R3.far (k := w1.heap.size) (by omega) _ _ _).kept hb4
         have B4 := (B3.set _ _ _).kept hb4
         have C4 := (C3.far (k := w1.heap.size) (by omega) _ _ _).kept hb4
         have K4 := (K3.set3 (g := w1.heap.size) (by omega) _ _ _).trans hb4
         obtain ⟨y_s, y_0, y_1, y_2, y_f⟩ := id C4))
    go_cut [11, 12, 28] (fun s11 s12 s28 wx => s28 = .int .i64 3 ∧ ∃ gx gy : Nat, s11 = .pointer (some ⟨gx, 0, none⟩) ∧ s12 = .pointer (some ⟨gy, 0, none⟩) ∧ Blk wx W.heap.size (.int .u64 0) (.int .u64 0) (.bool false) ∧
      Blk wx gx (.int .u64 X0) (.int .u64 X1) (.bool X2) ∧ Blk wx gy (.int .u64 Y0) (.int .u64 Y1) (.bool Y2) ∧ W.heap.size < gx ∧ W.heap.size < gy ∧ Kept W wx)
    case first => go_wp2_with fail; go_meet; exact ⟨rfl, _, _, rfl, rfl, R4.far (k := w2.heap.size) (by omega) _ _ _, B4.far (k := w2.heap.size) (by omega) _ _ _, C4.set _ _ _, by omega, by omega, K4.set3 (g := w2.heap.size) (by omega) _ _ _⟩
    case rest =>
      obtain ⟨rfl, gx, gy, rfl, rfl, R, B, C, hx, hy, K⟩ := hcut
      obtain ⟨x_s, x_0, x_1, x_2, x_f⟩ := B
      obtain ⟨y_s, y_0, y_1, y_2, y_f⟩ := C
      obtain ⟨wq, rfl⟩ : ∃ wq : World, wq = wc := ⟨_, rfl⟩
      go_wp2_with ((with_reducible refine (c5.go _).mono ?_); rintro e w5 ⟨rfl, hb5⟩
                   have R5 := R.kept hb5
                   obtain ⟨r_s, r_0, r_1, r_2, r_f⟩ := id R5)
      have R6 := R5.set (.int .u64 Z0) (.int .u64 Z1) (.bool Z2)
      obtain ⟨t_s, t_0, t_1, t_2, t_f⟩ := R6
      refine bodyPost_ret (v := .agg #[.int .u64 Z0, .int .u64 Z1, .bool Z2]) (by simp [results, Try.results45, go_sem, r_0, r_1, r_2]) rfl ⟨rfl, ?_⟩
      exact (K.trans hb5).set3 (g := W.heap.size) (by omega) _ _ _
set_option maxHeartbeats 2000000 in
theorem exact_2f (w a b Z0 Z1 N0 N1 P0 P1 Q0 Q1 : Int) (Z2 N2 P2 Q2 : Bool) (W : World)
    (c1 : Makes 47 #[.int .i64 w, .int .u64 a] (.agg #[.int .u64 P0, .int .u64 P1, .bool P2]))
    (c2 : Makes 47 #[.int .i64 w, .int .u64 b] (.agg #[.int .u64 Q0, .int .u64 Q1, .bool Q2]))
    (c6 : Makes 52 #[.agg #[.int .u64 Q0, .int .u64 Q1, .bool Q2]] (.agg #[.int .u64 N0, .int .u64 N1, .bool N2]))
    (c5 : Makes 51 #[.agg #[.int .u64 P0, .int .u64 P1, .bool P2], .agg #[.int .u64 N0, .int .u64 N1, .bool N2]] (.agg #[.int .u64 Z0, .int .u64 Z1, .bool Z2])) :
    Calls Try.prog 45 #[.int .i64 2, .int .i64 w, .int .u64 a, .int .u64 b, .bool false] W fun e w' => e = .returned (.agg #[.int .u64 Z0, .int .u64 Z1, .bool Z2]) ∧ Kept W w' := by
    go_enter Try.func45, Try.ntmps45
    go_upto_region 7 with (first
      | ((with_reducible refine (c1.go _).mono ?_); rintro e w1 ⟨rfl, hb1⟩
         have hz1 := ksz hb1
         have R1 := (Blk.new _ _ _ _ _).kept hb1
         have K1 := ((Kept.refl W).alloc _ _).trans hb1)
      | ((with_reducible refine (c2.go _).mono ?_); rintro e w2 ⟨rfl, hb2⟩
         have hz2 := ksz hb2
         have R2 := (R1.alloc _ _).kept hb2
         have B2 := (Blk.new _ _ _ _ _).kept hb2
         have K2 := (K1.alloc _ _).trans hb2))
    go_cut [11, 12, 28] (fun s11 s12 s28 wx => s28 = .int .i64 2 ∧ ∃ gx gy : Nat, s11 = .pointer (some ⟨gx, 0, none⟩) ∧ s12 = .pointer (some ⟨gy, 0, none⟩) ∧ Blk wx W.heap.size (.int .u64 0) (.int .u64 0) (.bool false) ∧
      Blk wx gx (.int .u64 P0) (.int .u64 P1) (.bool P2) ∧ Blk wx gy (.int .u64 Q0) (.int .u64 Q1) (.bool Q2) ∧ W.heap.size < gx ∧ W.heap.size < gy ∧ Kept W wx)
    case first => go_wp2_with fail; go_meet; exact ⟨rfl, _, _, rfl, rfl, R2.alloc _ _, B2.alloc _ _, Blk.new _ _ _ _ _, by omega, by omega, K2.alloc _ _⟩
    case rest =>
      obtain ⟨rfl, gx, gy, rfl, rfl, R, B, C, hx, hy, K⟩ := hcut
      obtain ⟨x_s, x_0, x_1, x_2, x_f⟩ := id B
      obtain ⟨y_s, y_0, y_1, y_2, y_f⟩ := id C
      obtain ⟨wq, rfl⟩ : ∃ wq : World, wq = wc := ⟨_, rfl⟩
      have dr : ∀ a, wq.drew.cell? a = wq.cell? a := fun _ => rfl
      go_upto_region 11 with fail
      go_region_held3 (fun w' => w'.cell? ⟨gx, 0, none⟩ = some (.int .u64 P0) ∧ w'.cell? ⟨gx, 1, none⟩ = some (.int .u64 P1) ∧ w'.cell? ⟨gx, 2, none⟩ = some (.bool P2) ∧ w'.cell? ⟨gy, 0, none⟩ = some (.int .u64 Q0) ∧ w'.cell? ⟨gy, 1, none⟩ = some (.int .u64 Q1) ∧ w'.cell? ⟨gy, 2, none⟩ = some (.bool Q2))
        (((try dsimp only); (repeat' apply And.intro) <;> (first | (with_reducible assumption) | (rw [dr]; with_reducible assumption) | (rw [World.cell?_setCell_far _ _ _ _ (by dsimp only; omega), World.cell?_setCell_far _ _ _ _ (by dsimp only; omega), World.cell?_setCell_far _ _ _ _ (by dsimp only; omega)]; with_reducible assumption))))
        (first
          | ((with_reducible refine (c6.go _).mono ?_); rintro e w5 ⟨rfl, hb5⟩
             have R5 := R.kept (Kept.of_drew hb5)
             have K5 := K.trans (Kept.of_drew hb5)
             obtain ⟨u_s, u_0, u_1, u_2, u_f⟩ := B.kept (Kept.of_drew hb5)
             obtain ⟨v_s, v_0, v_1, v_2, v_f⟩ := C.kept (Kept.of_drew hb5))
          | ((with_reducible refine (c5.go _).mono ?_); rintro e w6 ⟨rfl, hb6⟩
             have R6 := R5.kept hb6
             have K6 := K5.trans hb6
             obtain ⟨r_s, r_0, r_1, r_2, r_f⟩ := id R6
             obtain ⟨g_s, g_0, g_1, g_2, g_f⟩ := (B.kept (Kept.of_drew hb5)).kept hb6
             obtain ⟨h_s, h_0, h_1, h_2, h_f⟩ := (C.kept (Kept.of_drew hb5)).kept hb6))
      all_goals (try go_wp2_with fail)
      all_goals
        have R7 := R6.set (.int .u64 Z0) (.int .u64 Z1) (.bool Z2)
        obtain ⟨t_s, t_0, t_1, t_2, t_f⟩ := R7
        refine bodyPost_ret (v := .agg #[.int .u64 Z0, .int .u64 Z1, .bool Z2]) (by simp [results, Try.results45, go_sem, r_0, r_1, r_2]) rfl ⟨rfl, ?_⟩
        exact K6.set3 (g := W.heap.size) (by omega) _ _ _
set_option maxHeartbeats 2000000 in
theorem exact_2t (w a b X0 X1 Y0 Y1 Z0 Z1 N0 N1 P0 P1 Q0 Q1 : Int) (X2 Y2 Z2 N2 P2 Q2  : Bool) (W : World)
    (c1 : Makes 47 #[.int .i64 w, .int .u64 a] (.agg #[.int .u64 P0, .int .u64 P1, .bool P2]))
    (c2 : Makes 47 #[.int .i64 w, .int .u64 b] (.agg #[.int .u64 Q0, .int .u64 Q1, .bool Q2]))
    (c3 : Makes 37 #[.int .i64 w, .int .u64 a] (.agg #[.int .u64 X0, .int .u64 X1, .bool X2]))
    (c4 : Makes 37 #[.int .i64 w, .int .u64 b] (.agg #[.int .u64 Y0, .int .u64 Y1, .bool Y2]))
    (c6 : Makes 52 #[.agg #[.int .u64 Y0, .int .u64 Y1, .bool Y2]] (.agg #[.int .u64 N0, .int .u64 N1, .bool N2]))
    (c5 : Makes 51 #[.agg #[.int .u64 X0, .int .u64 X1, .bool X2], .agg #[.int .u64 N0, .int .u64 N1, .bool N2]] (.agg #[.int .u64 Z0, .int .u64 Z1, .bool Z2])) :
    Calls Try.prog 45 #[.int .i64 2, .int .i64 w, .int .u64 a, .int .u64 b, .bool true] W fun e w' => e = .returned (.agg #[.int .u64 Z0, .int .u64 Z1, .bool Z2]) ∧ Kept W w' := by
    go_enter Try.func45, Try.ntmps45
    go_upto_region 7 with (first
      | ((with_reducible refine (c1.go _).mono ?_); rintro e w1 ⟨rfl, hb1⟩
         have hz1 := ksz hb1
         have R1 := (Blk.new _ _ _ _ _).kept hb1
         have K1 := ((Kept.refl W).alloc _ _).trans hb1)
      | ((with_reducible refine (c2.go _).mono ?_); rintro e w2 ⟨rfl, hb2⟩
         have hz2 := ksz hb2
         have R2 := (R1.alloc _ _).kept hb2
         have B2 := (Blk.new _ _ _ _ _).kept hb2
         have K2 := (K1.alloc _ _).trans hb2)
      | ((with_reducible refine (c3.go _).mono ?_); rintro e w3 ⟨rfl, hb3⟩
         have hz3 := ksz hb3
         have R3 := (R2.alloc _ _).kept hb3
         have B3 := (B2.alloc _ _).kept hb3
         have C3 := (Blk.new _ _ _ _ _).kept hb3
         have K3 := (K2.alloc _ _).trans hb3
         obtain ⟨x_s, x_0, x_1, x_2, x_f⟩ := id B3)
      | ((with_reducible refine (c4.go _).mono ?_); rintro e w4 ⟨rfl, hb4⟩
         have R4 := (R3.far (k := w1.heap.size) (by omega) _ _ _).kept hb4
         have B4 := (B3.set _ _ _).kept hb4
         have C4 := (C3.far (k := w1.heap.size) (by omega) _ _ _).kept hb4
         have K4 := (K3.set3 (g := w1.heap.size) (by omega) _ _ _).trans hb4
         obtain ⟨y_s, y_0, y_1, y_2, y_f⟩ := id C4))
    go_cut [11, 12, 28] (fun s11 s12 s28 wx => s28 = .int .i64 2 ∧ ∃ gx gy : Nat, s11 = .pointer (some ⟨gx, 0, none⟩) ∧ s12 = .pointer (some ⟨gy, 0, none⟩) ∧ Blk wx W.heap.size (.int .u64 0) (.int .u64 0) (.bool false) ∧
      Blk wx gx (.int .u64 X0) (.int .u64 X1) (.bool X2) ∧ Blk wx gy (.int .u64 Y0) (.int .u64 Y1) (.bool Y2) ∧ W.heap.size < gx ∧ W.heap.size < gy ∧ Kept W wx)
    case first => go_wp2_with fail; go_meet; exact ⟨rfl, _, _, rfl, rfl, R4.far (k := w2.heap.size) (by omega) _ _ _, B4.far (k := w2.heap.size) (by omega) _ _ _, C4.set _ _ _, by omega, by omega, K4.set3 (g := w2.heap.size) (by omega) _ _ _⟩
    case rest =>
      obtain ⟨rfl, gx, gy, rfl, rfl, R, B, C, hx, hy, K⟩ := hcut
      obtain ⟨x_s, x_0, x_1, x_2, x_f⟩ := id B
      obtain ⟨y_s, y_0, y_1, y_2, y_f⟩ := id C
      obtain ⟨wq, rfl⟩ : ∃ wq : World, wq = wc := ⟨_, rfl⟩
      have dr : ∀ a, wq.drew.cell? a = wq.cell? a := fun _ => rfl
      go_upto_region 11 with fail
      go_region_held3 (fun w' => w'.cell? ⟨gx, 0, none⟩ = some (.int .u64 X0) ∧ w'.cell? ⟨gx, 1, none⟩ = some (.int .u64 X1) ∧ w'.cell? ⟨gx, 2, none⟩ = some (.bool X2) ∧ w'.cell? ⟨gy, 0, none⟩ = some (.int .u64 Y0) ∧ w'.cell? ⟨gy, 1, none⟩ = some (.int .u64 Y1) ∧ w'.cell? ⟨gy, 2, none⟩ = some (.bool Y2))
        (((try dsimp only); (repeat' apply And.intro) <;> (first | (with_reducible assumption) | (rw [dr]; with_reducible assumption) | (rw [World.cell?_setCell_far _ _ _ _ (by dsimp only; omega), World.cell?_setCell_far _ _ _ _ (by dsimp only; omega), World.cell?_setCell_far _ _ _ _ (by dsimp only; omega)]; with_reducible assumption))))
        (first
          | ((with_reducible refine (c6.go _).mono ?_); rintro e w5 ⟨rfl, hb5⟩
             have R5 := R.kept (Kept.of_drew hb5)
             have K5 := K.trans (Kept.of_drew hb5)
             obtain ⟨u_s, u_0, u_1, u_2, u_f⟩ := B.kept (Kept.of_drew hb5)
             obtain ⟨v_s, v_0, v_1, v_2, v_f⟩ := C.kept (Kept.of_drew hb5))
          | ((with_reducible refine (c5.go _).mono ?_); rintro e w6 ⟨rfl, hb6⟩
             have R6 := R5.kept hb6
             have K6 := K5.trans hb6
             obtain ⟨r_s, r_0, r_1, r_2, r_f⟩ := id R6
             obtain ⟨g_s, g_0, g_1, g_2, g_f⟩ := (B.kept (Kept.of_drew hb5)).kept hb6
             obtain ⟨h_s, h_0, h_1, h_2, h_f⟩ := (C.kept (Kept.of_drew hb5)).kept hb6))
      all_goals (try go_wp2_with fail)
      all_goals
        have R7 := R6.set (.int .u64 Z0) (.int .u64 Z1) (.bool Z2)
        obtain ⟨t_s, t_0, t_1, t_2, t_f⟩ := R7
        refine bodyPost_ret (v := .agg #[.int .u64 Z0, .int .u64 Z1, .bool Z2]) (by simp [results, Try.results45, go_sem, r_0, r_1, r_2]) rfl ⟨rfl, ?_⟩
        exact K6.set3 (g := W.heap.size) (by omega) _ _ _
set_option maxHeartbeats 2000000 in
theorem exact_11f (w a b Z0 Z1 N0 N1 P0 P1 Q0 Q1 : Int) (Z2 N2 P2 Q2 : Bool) (W : World)
    (c1 : Makes 47 #[.int .i64 w, .int .u64 a] (.agg #[.int .u64 P0, .int .u64 P1, .bool P2]))
    (c2 : Makes 47 #[.int .i64 w, .int .u64 b] (.agg #[.int .u64 Q0, .int .u64 Q1, .bool Q2]))
    (c6 : Makes 50 #[.int .u64 Q1] (.agg #[.int .u64 N0, .int .u64 N1, .bool N2]))
    (c5 : Makes 58 #[.agg #[.int .u64 P0, .int .u64 P1, .bool P2], .agg #[.int .u64 N0, .int .u64 N1, .bool N2]] (.agg #[.int .u64 Z0, .int .u64 Z1, .bool Z2])) :
    Calls Try.prog 45 #[.int .i64 11, .int .i64 w, .int .u64 a, .int .u64 b, .bool false] W fun e w' => e = .returned (.agg #[.int .u64 Z0, .int .u64 Z1, .bool Z2]) ∧ Kept W w' := by
    go_enter Try.func45, Try.ntmps45
    go_upto_region 7 with (first
      | ((with_reducible refine (c1.go _).mono ?_); rintro e w1 ⟨rfl, hb1⟩
         have hz1 := ksz hb1
         have R1 := (Blk.new _ _ _ _ _).kept hb1
         have K1 := ((Kept.refl W).alloc _ _).trans hb1)
      | ((with_reducible refine (c2.go _).mono ?_); rintro e w2 ⟨rfl, hb2⟩
         have hz2 := ksz hb2
         have R2 := (R1.alloc _ _).kept hb2
         have B2 := (Blk.new _ _ _ _ _).kept hb2
         have K2 := (K1.alloc _ _).trans hb2))
    go_cut [11, 12, 28] (fun s11 s12 s28 wx => s28 = .int .i64 11 ∧ ∃ gx gy : Nat, s11 = .pointer (some ⟨gx, 0, none⟩) ∧ s12 = .pointer (some ⟨gy, 0, none⟩) ∧ Blk wx W.heap.size (.int .u64 0) (.int .u64 0) (.bool false) ∧
      Blk wx gx (.int .u64 P0) (.int .u64 P1) (.bool P2) ∧ Blk wx gy (.int .u64 Q0) (.int .u64 Q1) (.bool Q2) ∧ W.heap.size < gx ∧ W.heap.size < gy ∧ Kept W wx)
    case first => go_wp2_with fail; go_meet; exact ⟨rfl, _, _, rfl, rfl, R2.alloc _ _, B2.alloc _ _, Blk.new _ _ _ _ _, by omega, by omega, K2.alloc _ _⟩
    case rest =>
      obtain ⟨rfl, gx, gy, rfl, rfl, R, B, C, hx, hy, K⟩ := hcut
      obtain ⟨x_s, x_0, x_1, x_2, x_f⟩ := id B
      obtain ⟨y_s, y_0, y_1, y_2, y_f⟩ := id C
      obtain ⟨wq, rfl⟩ : ∃ wq : World, wq = wc := ⟨_, rfl⟩
      have dr : ∀ a, wq.drew.cell? a = wq.cell? a := fun _ => rfl
      go_upto_region 14 with fail
      go_region_held3 (fun w' => w'.cell? ⟨gx, 0, none⟩ = some (.int .u64 P0) ∧ w'.cell? ⟨gx, 1, none⟩ = some (.int .u64 P1) ∧ w'.cell? ⟨gx, 2, none⟩ = some (.bool P2) ∧ w'.cell? ⟨gy, 0, none⟩ = some (.int .u64 Q0) ∧ w'.cell? ⟨gy, 1, none⟩ = some (.int .u64 Q1) ∧ w'.cell? ⟨gy, 2, none⟩ = some (.bool Q2))
        (((try dsimp only); (repeat' apply And.intro) <;> (first | (with_reducible assumption) | (rw [dr]; with_reducible assumption) | (rw [World.cell?_setCell_far _ _ _ _ (by dsimp only; omega), World.cell?_setCell_far _ _ _ _ (by dsimp only; omega), World.cell?_setCell_far _ _ _ _ (by dsimp only; omega)]; with_reducible assumption))))
        (first
          | ((with_reducible refine (c6.go _).mono ?_); rintro e w5 ⟨rfl, hb5⟩
             have R5 := R.kept (Kept.of_drew hb5)
             have K5 := K.trans (Kept.of_drew hb5)
             obtain ⟨u_s, u_0, u_1, u_2, u_f⟩ := B.kept (Kept.of_drew hb5)
             obtain ⟨v_s, v_0, v_1, v_2, v_f⟩ := C.kept (Kept.of_drew hb5))
          | ((with_reducible refine (c5.go _).mono ?_); rintro e w6 ⟨rfl, hb6⟩
             have R6 := R5.kept hb6
             have K6 := K5.trans hb6
             obtain ⟨r_s, r_0, r_1, r_2, r_f⟩ := id R6
             obtain ⟨g_s, g_0, g_1, g_2, g_f⟩ := (B.kept (Kept.of_drew hb5)).kept hb6
             obtain ⟨h_s, h_0, h_1, h_2, h_f⟩ := (C.kept (Kept.of_drew hb5)).kept hb6))
      all_goals (try go_wp2_with fail)
      all_goals
        have R7 := R6.set (.int .u64 Z0) (.int .u64 Z1) (.bool Z2)
        obtain ⟨t_s, t_0, t_1, t_2, t_f⟩ := R7
        refine bodyPost_ret (v := .agg #[.int .u64 Z0, .int .u64 Z1, .bool Z2]) (by simp [results, Try.results45, go_sem, r_0, r_1, r_2]) rfl ⟨rfl, ?_⟩
        exact K6.set3 (g := W.heap.size) (by omega) _ _ _
set_option maxHeartbeats 2000000 in
theorem exact_11t (w a b X0 X1 Z0 Z1 N0 N1 P0 P1 Q0 Q1 : Int) (X2 Z2 N2 P2 Q2  : Bool) (W : World)
    (c1 : Makes 47 #[.int .i64 w, .int .u64 a] (.agg #[.int .u64 P0, .int .u64 P1, .bool P2]))
    (c2 : Makes 47 #[.int .i64 w, .int .u64 b] (.agg #[.int .u64 Q0, .int .u64 Q1, .bool Q2]))
    (c3 : Makes 37 #[.int .i64 w, .int .u64 a] (.agg #[.int .u64 X0, .int .u64 X1, .bool X2]))
    (c6 : Makes 50 #[.int .u64 Q1] (.agg #[.int .u64 N0, .int .u64 N1, .bool N2]))
    (c5 : Makes 58 #[.agg #[.int .u64 X0, .int .u64 X1, .bool X2], .agg #[.int .u64 N0, .int .u64 N1, .bool N2]] (.agg #[.int .u64 Z0, .int .u64 Z1, .bool Z2])) :
    Calls Try.prog 45 #[.int .i64 11, .int .i64 w, .int .u64 a, .int .u64 b, .bool true] W fun e w' => e = .returned (.agg #[.int .u64 Z0, .int .u64 Z1, .bool Z2]) ∧ Kept W w' := by
    go_enter Try.func45, Try.ntmps45
    go_upto_region 7 with (first
      | ((with_reducible refine (c1.go _).mono ?_); rintro e w1 ⟨rfl, hb1⟩
         have hz1 := ksz hb1
         have R1 := (Blk.new _ _ _ _ _).kept hb1
         have K1 := ((Kept.refl W).alloc _ _).trans hb1)
      | ((with_reducible refine (c2.go _).mono ?_); rintro e w2 ⟨rfl, hb2⟩
         have hz2 := ksz hb2
         have R2 := (R1.alloc _ _).kept hb2
         have B2 := (Blk.new _ _ _ _ _).kept hb2
         have K2 := (K1.alloc _ _).trans hb2)
      | ((with_reducible refine (c3.go _).mono ?_); rintro e w3 ⟨rfl, hb3⟩
         have hz3 := ksz hb3
         have R3 := (R2.alloc _ _).kept hb3
         have B3 := (B2.alloc _ _).kept hb3
         have C3 := (Blk.new _ _ _ _ _).kept hb3
         have K3 := (K2.alloc _ _).trans hb3
         obtain ⟨x_s, x_0, x_1, x_2, x_f⟩ := id B3))
    go_cut [11, 12, 28] (fun s11 s12 s28 wx => s28 = .int .i64 11 ∧ ∃ gx gy : Nat, s11 = .pointer (some ⟨gx, 0, none⟩) ∧ s12 = .pointer (some ⟨gy, 0, none⟩) ∧ Blk wx W.heap.size (.int .u64 0) (.int .u64 0) (.bool false) ∧
      Blk wx gx (.int .u64 X0) (.int .u64 X1) (.bool X2) ∧ Blk wx gy (.int .u64 Q0) (.int .u64 Q1) (.bool Q2) ∧ W.heap.size < gx ∧ W.heap.size < gy ∧ Kept W wx)
    case first => go_wp2_with fail; go_meet; exact ⟨rfl, _, _, rfl, rfl, R3.far (k := w1.heap.size) (by omega) _ _ _, B3.set _ _ _, C3.far (k := w1.heap.size) (by omega) _ _ _, by omega, by omega, K3.set3 (g := w1.heap.size) (by omega) _ _ _⟩
    case rest =>
      obtain ⟨rfl, gx, gy, rfl, rfl, R, B, C, hx, hy, K⟩ := hcut
      obtain ⟨x_s, x_0, x_1, x_2, x_f⟩ := id B
      obtain ⟨y_s, y_0, y_1, y_2, y_f⟩ := id C
      obtain ⟨wq, rfl⟩ : ∃ wq : World, wq = wc := ⟨_, rfl⟩
      have dr : ∀ a, wq.drew.cell? a = wq.cell? a := fun _ => rfl
      go_upto_region 14 with fail
      go_region_held3 (fun w' => w'.cell? ⟨gx, 0, none⟩ = some (.int .u64 X0) ∧ w'.cell? ⟨gx, 1, none⟩ = some (.int .u64 X1) ∧ w'.cell? ⟨gx, 2, none⟩ = some (.bool X2) ∧ w'.cell? ⟨gy, 0, none⟩ = some (.int .u64 Q0) ∧ w'.cell? ⟨gy, 1, none⟩ = some (.int .u64 Q1) ∧ w'.cell? ⟨gy, 2, none⟩ = some (.bool Q2))
        (((try dsimp only); (repeat' apply And.intro) <;> (first | (with_reducible assumption) | (rw [dr]; with_reducible assumption) | (rw [World.cell?_setCell_far _ _ _ _ (by dsimp only; omega), World.cell?_setCell_far _ _ _ _ (by dsimp only; omega), World.cell?_setCell_far _ _ _ _ (by dsimp only; omega)]; with_reducible assumption))))
        (first
          | ((with_reducible refine (c6.go _).mono ?_); rintro e w5 ⟨rfl, hb5⟩
             have R5 := R.kept (Kept.of_drew hb5)
             have K5 := K.trans (Kept.of_drew hb5)
             obtain ⟨u_s, u_0, u_1, u_2, u_f⟩ := B.kept (Kept.of_drew hb5)
             obtain ⟨v_s, v_0, v_1, v_2, v_f⟩ := C.kept (Kept.of_drew hb5))
          | ((with_reducible refine (c5.go _).mono ?_); rintro e w6 ⟨rfl, hb6⟩
             have R6 := R5.kept hb6
             have K6 := K5.trans hb6
             obtain ⟨r_s, r_0, r_1, r_2, r_f⟩ := id R6
             obtain ⟨g_s, g_0, g_1, g_2, g_f⟩ := (B.kept (Kept.of_drew hb5)).kept hb6
             obtain ⟨h_s, h_0, h_1, h_2, h_f⟩ := (C.kept (Kept.of_drew hb5)).kept hb6))
      all_goals (try go_wp2_with fail)
      all_goals
        have R7 := R6.set (.int .u64 Z0) (.int .u64 Z1) (.bool Z2)
        obtain ⟨t_s, t_0, t_1, t_2, t_f⟩ := R7
        refine bodyPost_ret (v := .agg #[.int .u64 Z0, .int .u64 Z1, .bool Z2]) (by simp [results, Try.results45, go_sem, r_0, r_1, r_2]) rfl ⟨rfl, ?_⟩
        exact K6.set3 (g := W.heap.size) (by omega) _ _ _
end Go.Proofs.Ythhdgfhndijmeaa
