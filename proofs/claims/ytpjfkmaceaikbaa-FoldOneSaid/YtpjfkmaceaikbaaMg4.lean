/- Several texts in one: RefI, RefJ, RefK, RefL, RefM, RefN. -/
import Derived.Test.YtpjfkmaceaikbaaMg3
namespace Go.Proofs.Ytpjfkmaceaikbaa
open Go.RowKit
set_option linter.unusedVariables false
set_option linter.unusedSimpArgs false

/-- A block of three cells that may be written. -/
def Blk (w : World) (g : Nat) (A B C : Value) : Prop :=
  g < w.heap.size ∧ w.cell? ⟨g, 0, none⟩ = some A ∧ w.cell? ⟨g, 1, none⟩ = some B ∧ w.cell? ⟨g, 2, none⟩ = some C ∧ ∀ i, w.frozen? ⟨g, i, none⟩ = false
theorem Blk.kept {w w' : World} {g : Nat} {A B C : Value} (h : Blk w g A B C) (k : Kept w w') : Blk w' g A B C := by
  obtain ⟨h0, h1, h2, h3, h4⟩ := h
  have hs := k.1.size
  exact ⟨by omega, by rw [(bcell k).1 _ _ h0]; exact h1, by rw [(bcell k).1 _ _ h0]; exact h2, by rw [(bcell k).1 _ _ h0]; exact h3, fun i => by rw [(bcell k).2 _ _ h0]; exact h4 i⟩
theorem Blk.new (w : World) (A B C : Value) (t : TypeId) : Blk (w.alloc (.cells #[A, B, C] t)) w.heap.size A B C :=
  ⟨by simp, by rw [World.cell?_alloc_at _ _ _ _ rfl]; rfl, by rw [World.cell?_alloc_at _ _ _ _ rfl]; rfl, by rw [World.cell?_alloc_at _ _ _ _ rfl]; rfl, fun i => World.frozen?_alloc_at _ _ _ _ rfl⟩
theorem Blk.alloc {w : World} {g : Nat} {A B C : Value} (h : Blk w g A B C) (c : Array Value) (t : TypeId) : Blk (w.alloc (.cells c t)) g A B C := h.kept ((Kept.refl w).alloc c t)
/-- All three cells written anew. -/
def set3 (w : World) (g : Nat) (A B C : Value) : World := ((w.setCell ⟨g, 0, none⟩ A).setCell ⟨g, 1, none⟩ B).setCell ⟨g, 2, none⟩ C
theorem Blk.set {w : World} {g : Nat} {A B C : Value} (h : Blk w g A B C) (A' B' C' : Value) : Blk (set3 w g A' B' C') g A' B' C' := by
  obtain ⟨h0, h1, h2, h3, h4⟩ := h
  have ne : ∀ i j : Nat, i ≠ j → (⟨g, i, none⟩ : Addr) ≠ ⟨g, j, none⟩ := fun i j h h2 => h (by injection h2)
  unfold set3
  refine ⟨by simpa [World.setCell] using h0, ?_, ?_, ?_, fun i => by simp only [World.frozen?_setCell]; exact h4 i⟩
  · rw [World.cell?_setCell_other (h := ne 2 0 (by decide)), World.cell?_setCell_other (h := ne 1 0 (by decide)), World.cell?_setCell_same' _ _ _ (by rw [h1]; rfl)]
  · rw [World.cell?_setCell_other (h := ne 2 1 (by decide)), World.cell?_setCell_same' _ _ _ (by rw [World.cell?_setCell_other (h := ne 0 1 (by decide)), h2]; rfl)]
  · rw [World.cell?_setCell_same' _ _ _ (by rw [World.cell?_setCell_other (h := ne 1 2 (by decide)), World.cell?_setCell_other (h := ne 0 2 (by decide)), h3]; rfl)]
theorem Blk.far {w : World} {g : Nat} {A B C : Value} (h : Blk w g A B C) {k : Nat} (hk : k ≠ g) (A' B' C' : Value) : Blk (set3 w k A' B' C') g A B C := by
  obtain ⟨h0, h1, h2, h3, h4⟩ := h
  unfold set3
  refine ⟨by simpa [World.setCell] using h0, ?_, ?_, ?_, fun i => by simp only [World.frozen?_setCell]; exact h4 i⟩ <;>
    (rw [World.cell?_setCell_far _ _ _ _ hk, World.cell?_setCell_far _ _ _ _ hk, World.cell?_setCell_far _ _ _ _ hk]; assumption)
theorem Kept.set3 {W w : World} (h : Kept W w) {g : Nat} (hg : W.heap.size ≤ g) (A B C : Value) : Kept W (set3 w g A B C) := ((h.setCell hg A).setCell hg B).setCell hg C
theorem ksz {L w : World} {c : Array Value} {t : TypeId} (h : Kept (L.alloc (.cells c t)) w) : L.heap.size < w.heap.size := by
  have := h.1.size; simp at this; omega

set_option maxHeartbeats 2000000 in
theorem exact_1f (w a b Z0 Z1 P0 P1 Q0 Q1 : Int) (Z2 P2 Q2 : Bool) (W : World)
    (c1 : Makes 79 #[.int .i64 w, .int .u64 a] (.agg #[.int .u64 P0, .int .u64 P1, .bool P2]))
    (c2 : Makes 79 #[.int .i64 w, .int .u64 b] (.agg #[.int .u64 Q0, .int .u64 Q1, .bool Q2]))
    (c5 : Makes 83 #[.agg #[.int .u64 P0, .int .u64 P1, .bool P2], .agg #[.int .u64 Q0, .int .u64 Q1, .bool Q2]] (.agg #[.int .u64 Z0, .int .u64 Z1, .bool Z2])) :
    Calls Try.prog 77 #[.int .i64 1, .int .i64 w, .int .u64 a, .int .u64 b, .bool false] W fun e w' => e = .returned (.agg #[.int .u64 Z0, .int .u64 Z1, .bool Z2]) ∧ Kept W w' := by
    go_enter Try.func77, Try.ntmps77
    go_upto_region 7 with (first
      | ((with_reducible refine (c1.go _).mono ?_); rintro e w1 ⟨rfl, hb1⟩
         have hz1 := ksz hb1
         have R1 := (Blk.new _ _ _ _ _).kept hb1
         have K1 := ((Kept.refl W).alloc _ _).trans hb1)
      | ((with_reducible refine (c2.go _).mono ?_); rintro e w2 ⟨rfl, hb2⟩
         have hz2 := ksz hb2
         have R2 := (R1.alloc _ _).kept hb2
         have B2 := (Blk.new _ _ _ _ _).kept hb2
         have K2 := (K1.alloc _ _).trans hb2))
    go_cut [11, 12, 28] (fun s11 s12 s28 wx => s28 = .int .i64 1 ∧ ∃ gx gy : Nat, s11 = .pointer (some ⟨gx, 0, none⟩) ∧ s12 = .pointer (some ⟨gy, 0, none⟩) ∧ Blk wx W.heap.size (.int .u64 0) (.int .u64 0) (.bool false) ∧
      Blk wx gx (.int .u64 P0) (.int .u64 P1) (.bool P2) ∧ Blk wx gy (.int .u64 Q0) (.int .u64 Q1) (.bool Q2) ∧ W.heap.size < gx ∧ W.heap.size < gy ∧ Kept W wx)
    case first => go_wp2_with fail; go_meet; exact ⟨rfl, _, _, rfl, rfl, R2.alloc _ _, B2.alloc _ _, Blk.new _ _ _ _ _, by omega, by omega, K2.alloc _ _⟩
    case rest =>
      obtain ⟨rfl, gx, gy, rfl, rfl, R, B, C, hx, hy, K⟩ := hcut
      obtain ⟨x_s, x_0, x_1, x_2, x_f⟩ := B
      obtain ⟨y_s, y_0, y_1, y_2, y_f⟩ := C
      obtain ⟨wq, rfl⟩ : ∃ wq : World, wq = wc := ⟨_, rfl⟩
      go_wp2_with ((with_reducible refine (c5.go _).mono ?_); rintro e w5 ⟨rfl, hb5⟩
                   have R5 := R.kept hb5
                   obtain ⟨r_s, r_0, r_1, r_2, r_f⟩ := id R5)
      have R6 := R5.set (.int .u64 Z0) (.int .u64 Z1) (.bool Z2)
      obtain ⟨t_s, t_0, t_1, t_2, t_f⟩ := R6
      refine bodyPost_ret (v := .agg #[.int .u64 Z0, .int .u64 Z1, .bool Z2]) (by simp [results, Try.results77, go_sem, r_0, r_1, r_2]) rfl ⟨rfl, ?_⟩
      exact (K.trans hb5).set3 (g := W.heap.size) (by omega) _ _ _
set_option maxHeartbeats 2000000 in
theorem exact_1t (w a b X0 X1 Y0 Y1 Z0 Z1 P0 P1 Q0 Q1 : Int) (X2 Y2 Z2 P2 Q2  : Bool) (W : World)
    (c1 : Makes 79 #[.int .i64 w, .int .u64 a] (.agg #[.int .u64 P0, .int .u64 P1, .bool P2]))
    (c2 : Makes 79 #[.int .i64 w, .int .u64 b] (.agg #[.int .u64 Q0, .int .u64 Q1, .bool Q2]))
    (c3 : Makes 53 #[.int .i64 w, .int .u64 a] (.agg #[.int .u64 X0, .int .u64 X1, .bool X2]))
    (c4 : Makes 53 #[.int .i64 w, .int .u64 b] (.agg #[.int .u64 Y0, .int .u64 Y1, .bool Y2]))
    (c5 : Makes 83 #[.agg #[.int .u64 X0, .int .u64 X1, .bool X2], .agg #[.int .u64 Y0, .int .u64 Y1, .bool Y2]] (.agg #[.int .u64 Z0, .int .u64 Z1, .bool Z2])) :
    Calls Try.prog 77 #[.int .i64 1, .int .i64 w, .int .u64 a, .int .u64 b, .bool true] W fun e w' => e = .returned (.agg #[.int .u64 Z0, .int .u64 Z1, .bool Z2]) ∧ Kept W w' := by
    go_enter Try.func77, Try.ntmps77
    go_upto_region 7 with (first
      | ((with_reducible refine (c1.go _).mono ?_); rintro e w1 ⟨rfl, hb1⟩
         have hz1 := ksz hb1
         have R1 := (Blk.new _ _ _ _ _).kept hb1
         have K1 := ((Kept.refl W).alloc _ _).trans hb1)
      | ((with_reducible refine (c2.go _).mono ?_); rintro e w2 ⟨rfl, hb2⟩
         have hz2 := ksz hb2
         have R2 := (R1.alloc _ _).kept hb2
         have B2 := (Blk.new _ _ _ _ _).kept hb2
         have K2 := (K1.alloc _ _).trans hb2)
      | ((with_reducible refine (c3.go _).mono ?_); rintro e w3 ⟨rfl, hb3⟩
         have hz3 := ksz hb3
         have R3 := (R2.alloc _ _).kept hb3
         have B3 := (B2.alloc _ _).kept hb3
         have C3 := (Blk.new _ _ _ _ _).kept hb3
         have K3 := (K2.alloc _ _).trans hb3
         obtain ⟨x_s, x_0, x_1, x_2, x_f⟩ := id B3)
      | ((with_reducible refine (c4.go _).mono ?_); rintro e w4 ⟨rfl, hb4⟩
         have R4 := (R3.far (k := w1.heap.size) (by omega) _ _ _).kept hb4
         have B4 := (B3.set _ _ _).kept hb4
         have C4 := (C3.far (k := w1.heap.size) (by omega) _ _ _).kept hb4
         have K4 := (K3.set3 (g := w1.heap.size) (by omega) _ _ _).trans hb4
         obtain ⟨y_s, y_0, y_1, y_2, y_f⟩ := id C4))
    go_cut [11, 12, 28] (fun s11 s12 s28 wx => s28 = .int .i64 1 ∧ ∃ gx gy : Nat, s11 = .pointer (some ⟨gx, 0, none⟩) ∧ s12 = .pointer (some ⟨gy, 0, none⟩) ∧ Blk wx W.heap.size (.int .u64 0) (.int .u64 0) (.bool false) ∧
      Blk wx gx (.int .u64 X0) (.int .u64 X1) (.bool X2) ∧ Blk wx gy (.int .u64 Y0) (.int .u64 Y1) (.bool Y2) ∧ W.heap.size < gx ∧ W.heap.size < gy ∧ Kept W wx)
    case first => go_wp2_with fail; go_meet; exact ⟨rfl, _, _, rfl, rfl, R4.far (k := w2.heap.size) (by omega) _ _ _, B4.far (k := w2.heap.size) (by omega) _ _ _, C4.set _ _ _, by omega, by omega, K4.set3 (g := w2.heap.size) (by omega) _ _ _⟩
    case rest =>
      obtain ⟨rfl, gx, gy, rfl, rfl, R, B, C, hx, hy, K⟩ := hcut
      obtain ⟨x_s, x_0, x_1, x_2, x_f⟩ := B
      obtain ⟨y_s, y_0, y_1, y_2, y_f⟩ := C
      obtain ⟨wq, rfl⟩ : ∃ wq : World, wq = wc := ⟨_, rfl⟩
      go_wp2_with ((with_reducible refine (c5.go _).mono ?_); rintro e w5 ⟨rfl, hb5⟩
                   have R5 := R.kept hb5
                   obtain ⟨r_s, r_0, r_1, r_2, r_f⟩ := id R5)
      have R6 := R5.set (.int .u64 Z0) (.int .u64 Z1) (.bool Z2)
      obtain ⟨t_s, t_0, t_1, t_2, t_f⟩ := R6
      refine bodyPost_ret (v := .agg #[.int .u64 Z0, .int .u64 Z1, .bool Z2]) (by simp [results, Try.results77, go_sem, r_0, r_1, r_2]) rfl ⟨rfl, ?_⟩
      exact (K.trans hb5).set3 (g := W.heap.size) (by omega) _ _ _
set_option maxHeartbeats 2000000 in
theorem exact_3f (w a b Z0 Z1 P0 P1 Q0 Q1 : Int) (Z2 P2 Q2 : Bool) (W : World)
    (c1 : Makes 79 #[.int .i64 w, .int .u64 a] (.agg #[.int .u64 P0, .int .u64 P1, .bool P2]))
    (c2 : Makes 79 #[.int .i64 w, .int .u64 b] (.agg #[.int .u64 Q0, .int .u64 Q1, .bool Q2]))
    (c5 : Makes 92 #[.agg #[.int .u64 P0, .int .u64 P1, .bool P2], .agg #[.int .u64 Q0, .int .u64 Q1, .bool Q2]] (.agg #[.int .u64 Z0, .int .u64 Z1, .bool Z2])) :
    Calls Try.prog 77 #[.int .i64 3, .int .i64 w, .int .u64 a, .int .u64 b, .bool false] W fun e w' => e = .returned (.agg #[.int .u64 Z0, .int .u64 Z1, .bool Z2]) ∧ Kept W w' := by
    go_enter Try.func77, Try.ntmps77
    go_upto_region 7 with (first
      | ((with_reducible refine (c1.go _).mono ?_); rintro e w1 ⟨rfl, hb1⟩
         have hz1 := ksz hb1
         have R1 := (Blk.new _ _ _ _ _).kept hb1
         have K1 := ((Kept.refl W).alloc _ _).trans hb1)
      | ((with_reducible refine (c2.go _).mono ?_); rintro e w2 ⟨rfl, hb2⟩
         have hz2 := ksz hb2
         have R2 := (R1.alloc _ _).kept hb2
         have B2 := (Blk.new _ _ _ _ _).kept hb2
         have K2 := (K1.alloc _ _).trans hb2))
    go_cut [11, 12, 28] (fun s11 s12 s28 wx => s28 = .int .i64 3 ∧ ∃ gx gy : Nat, s11 = .pointer (some ⟨gx, 0, none⟩) ∧ s12 = .pointer (some ⟨gy, 0, none⟩) ∧ Blk wx W.heap.size (.int .u64 0) (.int .u64 0) (.bool false) ∧
      Blk wx gx (.int .u64 P0) (.int .u64 P1) (.bool P2) ∧ Blk wx gy (.int .u64 Q0) (.int .u64 Q1) (.bool Q2) ∧ W.heap.size < gx ∧ W.heap.size < gy ∧ Kept W wx)
    case first => go_wp2_with fail; go_meet; exact ⟨rfl, _, _, rfl, rfl, R2.alloc _ _, B2.alloc _ _, Blk.new _ _ _ _ _, by omega, by omega, K2.alloc _ _⟩
    case rest =>
      obtain ⟨rfl, gx, gy, rfl, rfl, R, B, C, hx, hy, K⟩ := hcut
      obtain ⟨x_s, x_0, x_1, x_2, x_f⟩ := B
      obtain ⟨y_s, y_0, y_1, y_2, y_f⟩ := C
      obtain ⟨wq, rfl⟩ : ∃ wq : World, wq = wc := ⟨_, rfl⟩
      go_wp2_with ((with_reducible refine (c5.go _).mono ?_); rintro e w5 ⟨rfl, hb5⟩
                   have R5 := R.kept hb5
                   obtain ⟨r_s, r_0, r_1, r_2, r_f⟩ := id R5)
      have R6 := R5.set (.int .u64 Z0) (.int .u64 Z1) (.bool Z2)
      obtain ⟨t_s, t_0, t_1, t_2, t_f⟩ := R6
      refine bodyPost_ret (v := .agg #[.int .u64 Z0, .int .u64 Z1, .bool Z2]) (by simp [results, Try.results77, go_sem, r_0, r_1, r_2]) rfl ⟨rfl, ?_⟩
      exact (K.trans hb5).set3 (g := W.heap.size) (by omega) _ _ _
set_option maxHeartbeats 2000000 in
theorem exact_3t (w a b X0 X1 Y0 Y1 Z0 Z1 P0 P1 Q0 Q1 : Int) (X2 Y2 Z2 P2 Q2  : Bool) (W : World)
    (c1 : Makes 79 #[.int .i64 w, .int .u64 a] (.agg #[.int .u64 P0, .int .u64 P1, .bool P2]))
    (c2 : Makes 79 #[.int .i64 w, .int .u64 b] (.agg #[.int .u64 Q0, .int .u64 Q1, .bool Q2]))
    (c3 : Makes 53 #[.int .i64 w, .int .u64 a] (.agg #[.int .u64 X0, .int .u64 X1, .bool X2]))
    (c4 : Makes 53 #[.int .i64 w, .int .u64 b] (.agg #[.int .u64 Y0, .int .u64 Y1, .bool Y2]))
    (c5 : Makes 92 #[.agg #[.int .u64 X0, .int .u64 X1, .bool X2], .agg #[.int .u64 Y0, .int .u64 Y1, .bool Y2]] (.agg #[.int .u64 Z0, .int .u64 Z1, .bool Z2])) :
    Calls Try.prog 77 #[.int .i64 3, .int .i64 w, .int .u64 a, .int .u64 b, .bool true] W fun e w' => e = .returned (.agg #[.int .u64 Z0, .int .u64 Z1, .bool Z2]) ∧ Kept W w' := by
    go_enter Try.func77, Try.ntmps77
    go_upto_region 7 with (first
      | ((with_reducible refine (c1.go _).mono ?_); rintro e w1 ⟨rfl, hb1⟩
         have hz1 := ksz hb1
         have R1 := (Blk.new _ _ _ _ _).kept hb1
         have K1 := ((Kept.refl W).alloc _ _).trans hb1)
      | ((with_reducible refine (c2.go _).mono ?_); rintro e w2 ⟨rfl, hb2⟩
         have hz2 := ksz hb2
         have R2 := (R1.alloc _ _).kept hb2
         have B2 := (Blk.new _ _ _ _ _).kept hb2
         have K2 := (K1.alloc _ _).trans hb2)
      | ((with_reducible refine (c3.go _).mono ?_); rintro e w3 ⟨rfl, hb3⟩
         have hz3 := ksz hb3
         have R3 := (R2.alloc _ _).kept hb3
         have B3 := (B2.alloc _ _).kept hb3
         have C3 := (Blk.new _ _ _ _ _).kept hb3
         have K3 := (K2.alloc _ _).trans hb3
         obtain ⟨x_s, x_0, x_1, x_2, x_f⟩ := id B3)
      | ((with_reducible refine (c4.go _).mono ?_); rintro e w4 ⟨rfl, hb4⟩
         have R4 := (R3.far (k := w1.heap.size) (by omega) _ _ _).kept hb4
         have B4 := (B3.set _ _ _).kept hb4
         have C4 := (C3.far (k := w1.heap.size) (by omega) _ _ _).kept hb4
         have K4 := (K3.set3 (g := w1.heap.size) (by omega) _ _ _).trans hb4
         obtain ⟨y_s, y_0, y_1, y_2, y_f⟩ := id C4))
    go_cut [11, 12, 28] (fun s11 s12 s28 wx => s28 = .int .i64 3 ∧ ∃ gx gy : Nat, s11 = .pointer (some ⟨gx, 0, none⟩) ∧ s12 = .pointer (some ⟨gy, 0, none⟩) ∧ Blk wx W.heap.size (.int .u64 0) (.int .u64 0) (.bool false) ∧
      Blk wx gx (.int .u64 X0) (.int .u64 X1) (.bool X2) ∧ Blk wx gy (.int .u64 Y0) (.int .u64 Y1) (.bool Y2) ∧ W.heap.size < gx ∧ W.heap.size < gy ∧ Kept W wx)
    case first => go_wp2_with fail; go_meet; exact ⟨rfl, _, _, rfl, rfl, R4.far (k := w2.heap.size) (by omega) _ _ _, B4.far (k := w2.heap.size) (by omega) _ _ _, C4.set _ _ _, by omega, by omega, K4.set3 (g := w2.heap.size) (by omega) _ _ _⟩
    case rest =>
      obtain ⟨rfl, gx, gy, rfl, rfl, R, B, C, hx, hy, K⟩ := hcut
      obtain ⟨x_s, x_0, x_1, x_2, x_f⟩ := B
      obtain ⟨y_s, y_0, y_1, y_2, y_f⟩ := C
      obtain ⟨wq, rfl⟩ : ∃ wq : World, wq = wc := ⟨_, rfl⟩
      go_wp2_with ((with_reducible refine (c5.go _).mono ?_); rintro e w5 ⟨rfl, hb5⟩
                   have R5 := R.kept hb5
                   obtain ⟨r_s, r_0, r_1, r_2, r_f⟩ := id R5)
      have R6 := R5.set (.int .u64 Z0) (.int .u64 Z1) (.bool Z2)
      obtain ⟨t_s, t_0, t_1, t_2, t_f⟩ := R6
      refine bodyPost_ret (v := .agg #[.int .u64 Z0, .int .u64 Z1, .bool Z2]) (by simp [results, Try.results77, go_sem, r_0, r_1, r_2]) rfl ⟨rfl, ?_⟩
      exact (K.trans hb5).set3 (g := W.heap.size) (by omega) _ _ _
set_option maxHeartbeats 2000000 in
theorem exact_2f (w a b Z0 Z1 N0 N1 P0 P1 Q0 Q1 : Int) (Z2 N2 P2 Q2 : Bool) (W : World)
    (c1 : Makes 79 #[.int .i64 w, .int .u64 a] (.agg #[.int .u64 P0, .int .u64 P1, .bool P2]))
    (c2 : Makes 79 #[.int .i64 w, .int .u64 b] (.agg #[.int .u64 Q0, .int .u64 Q1, .bool Q2]))
    (c6 : Makes 84 #[.agg #[.int .u64 Q0, .int .u64 Q1, .bool Q2]] (.agg #[.int .u64 N0, .int .u64 N1, .bool N2]))
    (c5 : Makes 83 #[.agg #[.int .u64 P0, .int .u64 P1, .bool P2], .agg #[.int .u64 N0, .int .u64 N1, .bool N2]] (.agg #[.int .u64 Z0, .int .u64 Z1, .bool Z2])) :
    Calls Try.prog 77 #[.int .i64 2, .int .i64 w, .int .u64 a, .int .u64 b, .bool false] W fun e w' => e = .returned (.agg #[.int .u64 Z0, .int .u64 Z1, .bool Z2]) ∧ Kept W w' := by
    go_enter Try.func77, Try.ntmps77
    go_upto_region 7 with (first
      | ((with_reducible refine (c1.go _).mono ?_); rintro e w1 ⟨rfl, hb1⟩
         have hz1 := ksz hb1
         have R1 := (Blk.new _ _ _ _ _).kept hb1
         have K1 := ((Kept.refl W).alloc _ _).trans hb1)
      | ((with_reducible refine (c2.go _).mono ?_); rintro e w2 ⟨rfl, hb2⟩
         have hz2 := ksz hb2
         have R2 := (R1.alloc _ _).kept hb2
         have B2 := (Blk.new _ _ _ _ _).kept hb2
         have K2 := (K1.alloc _ _).trans hb2))
    go_cut [11, 12, 28] (fun s11 s12 s28 wx => s28 = .int .i64 2 ∧ ∃ gx gy : Nat, s11 = .pointer (some ⟨gx, 0, none⟩) ∧ s12 = .pointer (some ⟨gy, 0, none⟩) ∧ Blk wx W.heap.size (.int .u64 0) (.int .u64 0) (.bool false) ∧
      Blk wx gx (.int .u64 P0) (.int .u64 P1) (.bool P2) ∧ Blk wx gy (.int .u64 Q0) (.int .u64 Q1) (.bool Q2) ∧ W.heap.size < gx ∧ W.heap.size < gy ∧ Kept W wx)
    case first => go_wp2_with fail; go_meet; exact ⟨rfl, _, _, rfl, rfl, R2.alloc _ _, B2.alloc _ _, Blk.new _ _ _ _ _, by omega, by omega, K2.alloc _ _⟩
    case rest =>
      obtain ⟨rfl, gx, gy, rfl, rfl, R, B, C, hx, hy, K⟩ := hcut
      obtain ⟨x_s, x_0, x_1, x_2, x_f⟩ := id B
      obtain ⟨y_s, y_0, y_1, y_2, y_f⟩ := id C
      obtain ⟨wq, rfl⟩ : ∃ wq : World, wq = wc := ⟨_, rfl⟩
      have dr : ∀ a, wq.drew.cell? a = wq.cell? a := fun _ => rfl
      go_upto_region 11 with fail
      go_region_held3 (fun w' => w'.cell? ⟨gx, 0, none⟩ = some (.int .u64 P0) ∧ w'.cell? ⟨gx, 1, none⟩ = some (.int .u64 P1) ∧ w'.cell? ⟨gx, 2, none⟩ = some (.bool P2) ∧ w'.cell? ⟨gy, 0, none⟩ = some (.int .u64 Q0) ∧ w'.cell? ⟨gy, 1, none⟩ = some (.int .u64 Q1) ∧ w'.cell? ⟨gy, 2, none⟩ = some (.bool Q2))
        (((try dsimp only); (repeat' apply And.intro) <;> (first | (with_reducible assumption) | (rw [dr]; with_reducible assumption) | (rw [World.cell?_setCell_far _ _ _ _ (by dsimp only; omega), World.cell?_setCell_far _ _ _ _ (by dsimp only; omega), World.cell?_setCell_far _ _ _ _ (by dsimp only; omega)]; with_reducible assumption))))
        (first
          | ((with_reducible refine (c6.go _).mono ?_); rintro e w5 ⟨rfl, hb5⟩
             have R5 := R.kept (Kept.of_drew hb5)
             have K5 := K.trans (Kept.of_drew hb5)
             obtain ⟨u_s, u_0, u_1, u_2, u_f⟩ := B.kept (Kept.of_drew hb5)
             obtain ⟨v_s, v_0, v_1, v_2, v_f⟩ := C.kept (Kept.of_drew hb5))
          | ((with_reducible refine (c5.go _).mono ?_); rintro e w6 ⟨rfl, hb6⟩
             have R6 := R5.kept hb6
             have K6 := K5.trans hb6
             obtain ⟨r_s, r_0, r_1, r_2, r_f⟩ := id R6
             obtain ⟨g_s, g_0, g_1, g_2, g_f⟩ := (B.kept (Kept.of_drew hb5)).kept hb6
             obtain ⟨h_s, h_0, h_1, h_2, h_f⟩ := (C.kept (Kept.of_drew hb5)).kept hb6))
      all_goals (try go_wp2_with fail)
      all_goals
        have R7 := R6.set (.int .u64 Z0) (.int .u64 Z1) (.bool Z2)
        obtain ⟨t_s, t_0, t_1, t_2, t_f⟩ := R7
        refine bodyPost_ret (v := .agg #[.int .u64 Z0, .int .u64 Z1, .bool Z2]) (by simp [results, Try.results77, go_sem, r_0, r_1, r_2]) rfl ⟨rfl, ?_⟩
        exact K6.set3 (g := W.heap.size) (by omega) _ _ _
set_option maxHeartbeats 2000000 in
theorem exact_2t (w a b X0 X1 Y0 Y1 Z0 Z1 N0 N1 P0 P1 Q0 Q1 : Int) (X2 Y2 Z2 N2 P2 Q2  : Bool) (W : World)
    (c1 : Makes 79 #[.int .i64 w, .int .u64 a] (.agg #[.int .u64 P0, .int .u64 P1, .bool P2]))
    (c2 : Makes 79 #[.int .i64 w, .int .u64 b] (.agg #[.int .u64 Q0, .int .u64 Q1, .bool Q2]))
    (c3 : Makes 53 #[.int .i64 w, .int .u64 a] (.agg #[.int .u64 X0, .int .u64 X1, .bool X2]))
    (c4 : Makes 53 #[.int .i64 w, .int .u64 b] (.agg #[.int .u64 Y0, .int .u64 Y1, .bool Y2]))
    (c6 : Makes 84 #[.agg #[.int .u64 Y0, .int .u64 Y1, .bool Y2]] (.agg #[.int .u64 N0, .int .u64 N1, .bool N2]))
    (c5 : Makes 83 #[.agg #[.int .u64 X0, .int .u64 X1, .bool X2], .agg #[.int .u64 N0, .int .u64 N1, .bool N2]] (.agg #[.int .u64 Z0, .int .u64 Z1, .bool Z2])) :
    Calls Try.prog 77 #[.int .i64 2, .int .i64 w, .int .u64 a, .int .u64 b, .bool true] W fun e w' => e = .returned (.agg #[.int .u64 Z0, .int .u64 Z1, .bool Z2]) ∧ Kept W w' := by
    go_enter Try.func77, Try.ntmps77
    go_upto_region 7 with (first
      | ((with_reducible refine (c1.go _).mono ?_); rintro e w1 ⟨rfl, hb1⟩
         have hz1 := ksz hb1
         have R1 := (Blk.new _ _ _ _ _).kept hb1
         have K1 := ((Kept.refl W).alloc _ _).trans hb1)
      | ((with_reducible refine (c2.go _).mono ?_); rintro e w2 ⟨rfl, hb2⟩
         have hz2 := ksz hb2
         have R2 := (R1.alloc _ _).kept hb2
         have B2 := (Blk.new _ _ _ _ _).kept hb2
         have K2 := (K1.alloc _ _).trans hb2)
      | ((with_reducible refine (c3.go _).mono ?_); rintro e w3 ⟨rfl, hb3⟩
         have hz3 := ksz hb3
         have R3 := (R2.alloc _ _).kept hb3
         have B3 := (B2.alloc _ _).kept hb3
         have C3 := (Blk.new _ _ _ _ _).kept hb3
         have K3 := (K2.alloc _ _).trans hb3
         obtain ⟨x_s, x_0, x_1, x_2, x_f⟩ := id B3)
      | ((with_reducible refine (c4.go _).mono ?_); rintro e w4 ⟨rfl, hb4⟩
         have R4 := (R3.far (k := w1.heap.size) (by omega) _ _ _).kept hb4
         have B4 := (B3.set _ _ _).kept hb4
         have C4 := (C3.far (k := w1.heap.size) (by omega) _ _ _).kept hb4
         have K4 := (K3.set3 (g := w1.heap.size) (by omega) _ _ _).trans hb4
         obtain ⟨y_s, y_0, y_1, y_2, y_f⟩ := id C4))
    go_cut [11, 12, 28] (fun s11 s12 s28 wx => s28 = .int .i64 2 ∧ ∃ gx gy : Nat, s11 = .pointer (some ⟨gx, 0, none⟩) ∧ s12 = .pointer (some ⟨gy, 0, none⟩) ∧ Blk wx W.heap.size (.int .u64 0) (.int .u64 0) (.bool false) ∧
      Blk wx gx (.int .u64 X0) (.int .u64 X1) (.bool X2) ∧ Blk wx gy (.int .u64 Y0) (.int .u64 Y1) (.bool Y2) ∧ W.heap.size < gx ∧ W.heap.size < gy ∧ Kept W wx)
    case first => go_wp2_with fail; go_meet; exact ⟨rfl, _, _, rfl, rfl, R4.far (k := w2.heap.size) (by omega) _ _ _, B4.far (k := w2.heap.size) (by omega) _ _ _, C4.set _ _ _, by omega, by omega, K4.set3 (g := w2.heap.size) (by omega) _ _ _⟩
    case rest =>
      obtain ⟨rfl, gx, gy, rfl, rfl, R, B, C, hx, hy, K⟩ := hcut
      obtain ⟨x_s, x_0, x_1, x_2, x_f⟩ := id B
      obtain ⟨y_s, y_0, y_1, y_2, y_f⟩ := id C
      obtain ⟨wq, rfl⟩ : ∃ wq : World, wq = wc := ⟨_, rfl⟩
      have dr : ∀ a, wq.drew.cell? a = wq.cell? a := fun _ => rfl
      go_upto_region 11 with fail
      go_region_held3 (fun w' => w'.cell? ⟨gx, 0, none⟩ = some (.int .u64 X0) ∧ w'.cell? ⟨gx, 1, none⟩ = some (.int .u64 X1) ∧ w'.cell? ⟨gx, 2, none⟩ = some (.bool X2) ∧ w'.cell? ⟨gy, 0, none⟩ = some (.int .u64 Y0) ∧ w'.cell? ⟨gy, 1, none⟩ = some (.int .u64 Y1) ∧ w'.cell? ⟨gy, 2, none⟩ = some (.bool Y2))
        (((try dsimp only); (repeat' apply And.intro) <;> (first | (with_reducible assumption) | (rw [dr]; with_reducible assumption) | (rw [World.cell?_setCell_far _ _ _ _ (by dsimp only; omega), World.cell?_setCell_far _ _ _ _ (by dsimp only; omega), World.cell?_setCell_far _ _ _ _ (by dsimp only; omega)]; with_reducible assumption))))
        (first
          | ((with_reducible refine (c6.go _).mono ?_); rintro e w5 ⟨rfl, hb5⟩
             have R5 := R.kept (Kept.of_drew hb5)
             have K5 := K.trans (Kept.of_drew hb5)
             obtain ⟨u_s, u_0, u_1, u_2, u_f⟩ := B.kept (Kept.of_drew hb5)
             obtain ⟨v_s, v_0, v_1, v_2, v_f⟩ := C.kept (Kept.of_drew hb5))
          | ((with_reducible refine (c5.go _).mono ?_); rintro e w6 ⟨rfl, hb6⟩
             have R6 := R5.kept hb6
             have K6 := K5.trans hb6
             obtain ⟨r_s, r_0, r_1, r_2, r_f⟩ := id R6
             obtain ⟨g_s, g_0, g_1, g_2, g_f⟩ := (B.kept (Kept.of_drew hb5)).kept hb6
             obtain ⟨h_s, h_0, h_1, h_2, h_f⟩ := (C.kept (Kept.of_drew hb5)).kept hb6))
      all_goals (try go_wp2_with fail)
      all_goals
        have R7 := R6.set (.int .u64 Z0) (.int .u64 Z1) (.bool Z2)
        obtain ⟨t_s, t_0, t_1, t_2, t_f⟩ := R7
        refine bodyPost_ret (v := .agg #[.int .u64 Z0, .int .u64 Z1, .bool Z2]) (by simp [results, Try.results77, go_sem, r_0, r_1, r_2]) rfl ⟨rfl, ?_⟩
        exact K6.set3 (g := W.heap.size) (by omega) _ _ _
set_option maxHeartbeats 2000000 in
theorem exact_11f (w a b Z0 Z1 N0 N1 P0 P1 Q0 Q1 : Int) (Z2 N2 P2 Q2 : Bool) (W : World)
    (c1 : Makes 79 #[.int .i64 w, .int .u64 a] (.agg #[.int .u64 P0, .int .u64 P1, .bool P2]))
    (c2 : Makes 79 #[.int .i64 w, .int .u64 b] (.agg #[.int .u64 Q0, .int .u64 Q1, .bool Q2]))
    (c6 : Makes 82 #[.int .u64 Q1] (.agg #[.int .u64 N0, .int .u64 N1, .bool N2]))
    (c5 : Makes 92 #[.agg #[.int .u64 P0, .int .u64 P1, .bool P2], .agg #[.int .u64 N0, .int .u64 N1, .bool N2]] (.agg #[.int .u64 Z0, .int .u64 Z1, .bool Z2])) :
    Calls Try.prog 77 #[.int .i64 11, .int .i64 w, .int .u64 a, .int .u64 b, .bool false] W fun e w' => e = .returned (.agg #[.int .u64 Z0, .int .u64 Z1, .bool Z2]) ∧ Kept W w' := by
    go_enter Try.func77, Try.ntmps77
    go_upto_region 7 with (first
      | ((with_reducible refine (c1.go _).mono ?_); rintro e w1 ⟨rfl, hb1⟩
         have hz1 := ksz hb1
         have R1 := (Blk.new _ _ _ _ _).kept hb1
         have K1 := ((Kept.refl W).alloc _ _).trans hb1)
      | ((with_reducible refine (c2.go _).mono ?_); rintro e w2 ⟨rfl, hb2⟩
         have hz2 := ksz hb2
         have R2 := (R1.alloc _ _).kept hb2
         have B2 := (Blk.new _ _ _ _ _).kept hb2
         have K2 := (K1.alloc _ _).trans hb2))
    go_cut [11, 12, 28] (fun s11 s12 s28 wx => s28 = .int .i64 11 ∧ ∃ gx gy : Nat, s11 = .pointer (some ⟨gx, 0, none⟩) ∧ s12 = .pointer (some ⟨gy, 0, none⟩) ∧ Blk wx W.heap.size (.int .u64 0) (.int .u64 0) (.bool false) ∧
      Blk wx gx (.int .u64 P0) (.int .u64 P1) (.bool P2) ∧ Blk wx gy (.int .u64 Q0) (.int .u64 Q1) (.bool Q2) ∧ W.heap.size < gx ∧ W.heap.size < gy ∧ Kept W wx)
    case first => go_wp2_with fail; go_meet; exact ⟨rfl, _, _, rfl, rfl, R2.alloc _ _, B2.alloc _ _, Blk.new _ _ _ _ _, by omega, by omega, K2.alloc _ _⟩
    case rest =>
      obtain ⟨rfl, gx, gy, rfl, rfl, R, B, C, hx, hy, K⟩ := hcut
      obtain ⟨x_s, x_0, x_1, x_2, x_f⟩ := id B
      obtain ⟨y_s, y_0, y_1, y_2, y_f⟩ := id C
      obtain ⟨wq, rfl⟩ : ∃ wq : World, wq = wc := ⟨_, rfl⟩
      have dr : ∀ a, wq.drew.cell? a = wq.cell? a := fun _ => rfl
      go_upto_region 14 with fail
      go_region_held3 (fun w' => w'.cell? ⟨gx, 0, none⟩ = some (.int .u64 P0) ∧ w'.cell? ⟨gx, 1, none⟩ = some (.int .u64 P1) ∧ w'.cell? ⟨gx, 2, none⟩ = some (.bool P2) ∧ w'.cell? ⟨gy, 0, none⟩ = some (.int .u64 Q0) ∧ w'.cell? ⟨gy, 1, none⟩ = some (.int .u64 Q1) ∧ w'.cell? ⟨gy, 2, none⟩ = some (.bool Q2))
        (((try dsimp only); (repeat' apply And.intro) <;> (first | (with_reducible assumption) | (rw [dr]; with_reducible assumption) | (rw [World.cell?_setCell_far _ _ _ _ (by dsimp only; omega), World.cell?_setCell_far _ _ _ _ (by dsimp only; omega), World.cell?_setCell_far _ _ _ _ (by dsimp only; omega)]; with_reducible assumption))))
        (first
          | ((with_reducible refine (c6.go _).mono ?_); rintro e w5 ⟨rfl, hb5⟩
             have R5 := R.kept (Kept.of_drew hb5)
             have K5 := K.trans (Kept.of_drew hb5)
             obtain ⟨u_s, u_0, u_1, u_2, u_f⟩ := B.kept (Kept.of_drew hb5)
             obtain ⟨v_s, v_0, v_1, v_2, v_f⟩ := C.kept (Kept.of_drew hb5))
          | ((with_reducible refine (c5.go _).mono ?_); rintro e w6 ⟨rfl, hb6⟩
             have R6 := R5.kept hb6
             have K6 := K5.trans hb6
             obtain ⟨r_s, r_0, r_1, r_2, r_f⟩ := id R6
             obtain ⟨g_s, g_0, g_1, g_2, g_f⟩ := (B.kept (Kept.of_drew hb5)).kept hb6
             obtain ⟨h_s, h_0, h_1, h_2, h_f⟩ := (C.kept (Kept.of_drew hb5)).kept hb6))
      all_goals (try go_wp2_with fail)
      all_goals
        have R7 := R6.set (.int .u64 Z0) (.int .u64 Z1) (.bool Z2)
        obtain ⟨t_s, t_0, t_1, t_2, t_f⟩ := R7
        refine bodyPost_ret (v := .agg #[.int .u64 Z0, .int .u64 Z1, .bool Z2]) (by simp [results, Try.results77, go_sem, r_0, r_1, r_2]) rfl ⟨rfl, ?_⟩
        exact K6.set3 (g := W.heap.size) (by omega) _ _ _
set_option maxHeartbeats 2000000 in
theorem exact_11t (w a b X0 X1 Z0 Z1 N0 N1 P0 P1 Q0 Q1 : Int) (X2 Z2 N2 P2 Q2  : Bool) (W : World)
    (c1 : Makes 79 #[.int .i64 w, .int .u64 a] (.agg #[.int .u64 P0, .int .u64 P1, .bool P2]))
    (c2 : Makes 79 #[.int .i64 w, .int .u64 b] (.agg #[.int .u64 Q0, .int .u64 Q1, .bool Q2]))
    (c3 : Makes 53 #[.int .i64 w, .int .u64 a] (.agg #[.int .u64 X0, .int .u64 X1, .bool X2]))
    (c6 : Makes 82 #[.int .u64 Q1] (.agg #[.int .u64 N0, .int .u64 N1, .bool N2]))
    (c5 : Makes 92 #[.agg #[.int .u64 X0, .int .u64 X1, .bool X2], .agg #[.int .u64 N0, .int .u64 N1, .bool N2]] (.agg #[.int .u64 Z0, .int .u64 Z1, .bool Z2])) :
    Calls Try.prog 77 #[.int .i64 11, .int .i64 w, .int .u64 a, .int .u64 b, .bool true] W fun e w' => e = .returned (.agg #[.int .u64 Z0, .int .u64 Z1, .bool Z2]) ∧ Kept W w' := by
    go_enter Try.func77, Try.ntmps77
    go_upto_region 7 with (first
      | ((with_reducible refine (c1.go _).mono ?_); rintro e w1 ⟨rfl, hb1⟩
         have hz1 := ksz hb1
         have R1 := (Blk.new _ _ _ _ _).kept hb1
         have K1 := ((Kept.refl W).alloc _ _).trans hb1)
      | ((with_reducible refine (c2.go _).mono ?_); rintro e w2 ⟨rfl, hb2⟩
         have hz2 := ksz hb2
         have R2 := (R1.alloc _ _).kept hb2
         have B2 := (Blk.new _ _ _ _ _).kept hb2
         have K2 := (K1.alloc _ _).trans hb2)
      | ((with_reducible refine (c3.go _).mono ?_); rintro e w3 ⟨rfl, hb3⟩
         have hz3 := ksz hb3
         have R3 := (R2.alloc _ _).kept hb3
         have B3 := (B2.alloc _ _).kept hb3
         have C3 := (Blk.new _ _ _ _ _).kept hb3
         have K3 := (K2.alloc _ _).trans hb3
         obtain ⟨x_s, x_0, x_1, x_2, x_f⟩ := id B3))
    go_cut [11, 12, 28] (fun s11 s12 s28 wx => s28 = .int .i64 11 ∧ ∃ gx gy : Nat, s11 = .pointer (some ⟨gx, 0, none⟩) ∧ s12 = .pointer (some ⟨gy, 0, none⟩) ∧ Blk wx W.heap.size (.int .u64 0) (.int .u64 0) (.bool false) ∧
      Blk wx gx (.int .u64 X0) (.int .u64 X1) (.bool X2) ∧ Blk wx gy (.int .u64 Q0) (.int .u64 Q1) (.bool Q2) ∧ W.heap.size < gx ∧ W.heap.size < gy ∧ Kept W wx)
    case first => go_wp2_with fail; go_meet; exact ⟨rfl, _, _, rfl, rfl, R3.far (k := w1.heap.size) (by omega) _ _ _, B3.set _ _ _, C3.far (k := w1.heap.size) (by omega) _ _ _, by omega, by omega, K3.set3 (g := w1.heap.size) (by omega) _ _ _⟩
    case rest =>
      obtain ⟨rfl, gx, gy, rfl, rfl, R, B, C, hx, hy, K⟩ := hcut
      obtain ⟨x_s, x_0, x_1, x_2, x_f⟩ := id B
      obtain ⟨y_s, y_0, y_1, y_2, y_f⟩ := id C
      obtain ⟨wq, rfl⟩ : ∃ wq : World, wq = wc := ⟨_, rfl⟩
      have dr : ∀ a, wq.drew.cell? a = wq.cell? a := fun _ => rfl
      go_upto_region 14 with fail
      go_region_held3 (fun w' => w'.cell? ⟨gx, 0, none⟩ = some (.int .u64 X0) ∧ w'.cell? ⟨gx, 1, none⟩ = some (.int .u64 X1) ∧ w'.cell? ⟨gx, 2, none⟩ = some (.bool X2) ∧ w'.cell? ⟨gy, 0, none⟩ = some (.int .u64 Q0) ∧ w'.cell? ⟨gy, 1, none⟩ = some (.int .u64 Q1) ∧ w'.cell? ⟨gy, 2, none⟩ = some (.bool Q2))
        (((try dsimp only); (repeat' apply And.intro) <;> (first | (with_reducible assumption) | (rw [dr]; with_reducible assumption) | (rw [World.cell?_setCell_far _ _ _ _ (by dsimp only; omega), World.cell?_setCell_far _ _ _ _ (by dsimp only; omega), World.cell?_setCell_far _ _ _ _ (by dsimp only; omega)]; with_reducible assumption))))
        (first
          | ((with_reducible refine (c6.go _).mono ?_); rintro e w5 ⟨rfl, hb5⟩
             have R5 := R.kept (Kept.of_drew hb5)
             have K5 := K.trans (Kept.of_drew hb5)
             obtain ⟨u_s, u_0, u_1, u_2, u_f⟩ := B.kept (Kept.of_drew hb5)
             obtain ⟨v_s, v_0, v_1, v_2, v_f⟩ := C.kept (Kept.of_drew hb5))
          | ((with_reducible refine (c5.go _).mono ?_); rintro e w6 ⟨rfl, hb6⟩
             have R6 := R5.kept hb6
             have K6 := K5.trans hb6
             obtain ⟨r_s, r_0, r_1, r_2, r_f⟩ := id R6
             obtain ⟨g_s, g_0, g_1, g_2, g_f⟩ := (B.kept (Kept.of_drew hb5)).kept hb6
             obtain ⟨h_s, h_0, h_1, h_2, h_f⟩ := (C.kept (Kept.of_drew hb5)).kept hb6))
      all_goals (try go_wp2_with fail)
      all_goals
        have R7 := R6.set (.int .u64 Z0) (.int .u64 Z1) (.bool Z2)
        obtain ⟨t_s, t_0, t_1, t_2, t_f⟩ := R7
        refine bodyPost_ret (v := .agg #[.int .u64 Z0, .int .u64 Z1, .bool Z2]) (by simp [results, Try.results77, go_sem, r_0, r_1, r_2]) rfl ⟨rfl, ?_⟩
        exact K6.set3 (g := W.heap.size) (by omega) _ _ _
theorem mul_bd {x y A B : Int} (hA : 0 ≤ A) (hB : 0 ≤ B) (x1 : -A ≤ x) (x2 : x ≤ A) (y1 : -B ≤ y) (y2 : y ≤ B) : -(A * B) ≤ x * y ∧ x * y ≤ A * B := by
  have hm : (x.natAbs : Int) * (y.natAbs : Int) ≤ A * B := Int.mul_le_mul (by omega) (by omega) (by omega) hA
  have he : ((x * y).natAbs : Int) = (x.natAbs : Int) * (y.natAbs : Int) := by rw [Int.natAbs_mul]; rfl
  generalize x * y = z at *
  omega

/-- The number that exact takes for its first, and its second argument. -/
def xOf (w a : Int) (sign : Bool) : Int := if sign then sgn w a else a % pw w.toNat
theorem xOf_bd (w a : Int) (h1 : 1 ≤ w) (h2 : w ≤ 64) (sign : Bool) : -9223372036854775808 ≤ xOf w a sign ∧ xOf w a sign ≤ 18446744073709551615 := by
  have := sgn_bd w a
  have := mod_u64 a h1 h2
  unfold xOf
  split <;> omega
theorem exact_of (op w a b : Int) (sign : Bool) (ho : op = 1 ∨ op = 2 ∨ op = 3) (h1 : 1 ≤ w) (h2 : w ≤ 64) (ha : 0 ≤ a) (ha' : a ≤ 18446744073709551615) (hb : 0 ≤ b) (hb' : b ≤ 18446744073709551615) :
    Makes 77 #[.int .i64 op, .int .i64 w, .int .u64 a, .int .u64 b, .bool sign] (bigOf (ex op (xOf w a sign) (xOf w b sign))) := by
  intro W
  have pa := Plain_of w a h1 h2 ha ha'
  have pb := Plain_of w b h1 h2 hb hb'
  have sa := With_of w a h1 h2 ha ha'
  have sb := With_of w b h1 h2 hb hb'
  have xb := xOf_bd w a h1 h2 sign
  have yb := xOf_bd w b h1 h2 sign
  have hm := mul_bd (A := 18446744073709551615) (B := 18446744073709551615) (by omega) (by omega) (show _ ≤ xOf w a sign by omega) (by omega) (show _ ≤ xOf w b sign by omega) (by omega)
  rcases ho with rfl | rfl | rfl <;> cases sign <;> simp only [xOf, ex, if_true, if_false, Bool.false_eq_true, show ¬ (2 : Int) = 1 by decide, show ¬ (3 : Int) = 1 by decide, show ¬ (3 : Int) = 2 by decide] at *
  · exact exact_1f _ _ _ _ _ _ _ _ _ _ _ _ W pa pb (Plus_of _ _ ⟨by omega, by omega⟩ ⟨by omega, by omega⟩ ⟨by omega, by omega⟩)
  · exact exact_1t _ _ _ _ _ _ _ _ _ _ _ _ _ _ _ _ _ _ W pa pb sa sb (Plus_of _ _ ⟨by omega, by omega⟩ ⟨by omega, by omega⟩ ⟨by omega, by omega⟩)
  · rw [Int.sub_eq_add_neg]
    exact exact_2f _ _ _ _ _ _ _ _ _ _ _ _ _ _ _ W pa pb (Minus_of _) (Plus_of _ _ ⟨by omega, by omega⟩ ⟨by omega, by omega⟩ ⟨by omega, by omega⟩)
  · rw [Int.sub_eq_add_neg]
    exact exact_2t _ _ _ _ _ _ _ _ _ _ _ _ _ _ _ _ _ _ _ _ _ W pa pb sa sb (Minus_of _) (Plus_of _ _ ⟨by omega, by omega⟩ ⟨by omega, by omega⟩ ⟨by omega, by omega⟩)
  · exact exact_3f _ _ _ _ _ _ _ _ _ _ _ _ W pa pb (Times_of _ _ ⟨by omega, by omega⟩ ⟨by omega, by omega⟩)
  · exact exact_3t _ _ _ _ _ _ _ _ _ _ _ _ _ _ _ _ _ _ W pa pb sa sb (Times_of _ _ ⟨by omega, by omega⟩ ⟨by omega, by omega⟩)
theorem exact_of11 (w a b : Int) (sign : Bool) (h1 : 1 ≤ w) (h2 : w ≤ 64) (ha : 0 ≤ a) (ha' : a ≤ 18446744073709551615) (hb : 0 ≤ b) (hb' : b ≤ 18446744073709551615) (hy : b % pw w.toNat < w) :
    Makes 77 #[.int .i64 11, .int .i64 w, .int .u64 a, .int .u64 b, .bool sign] (bigOf (ex 11 (xOf w a sign) (b % pw w.toNat))) := by
  intro W
  have pa := Plain_of w a h1 h2 ha ha'
  have pb := Plain_of w b h1 h2 hb hb'
  have sa := With_of w a h1 h2 ha ha'
  have xb := xOf_bd w a h1 h2 sign
  have yb := mod_u64 b h1 h2
  have hp := pw_pos (b % pw w.toNat).toNat
  have hp' := pw_le63 (n := (b % pw w.toNat).toNat) (by omega)
  have ht := Times_of (xOf w a sign) (pw (b % pw w.toNat).toNat) ⟨by omega, by omega⟩ ⟨by omega, by omega⟩
  have hw : mag (b % pw w.toNat) % 18446744073709551616 = b % pw w.toNat := by rw [mag_pos (by omega)]; omega
  have hpw : Makes 82 #[.int .u64 (mag (b % pw w.toNat) % 18446744073709551616)] (bigOf (pw (b % pw w.toNat).toNat)) := by
    rw [hw]; intro W; exact power_any _ W (by omega) (by omega)
  cases sign <;> simp only [xOf, ex, if_true, if_false, Bool.false_eq_true, show ¬ (11 : Int) = 1 by decide, show ¬ (11 : Int) = 2 by decide, show ¬ (11 : Int) = 3 by decide] at *
  · exact exact_11f _ _ _ _ _ _ _ _ _ _ _ _ _ _ _ W pa pb hpw ht
  · exact exact_11t _ _ _ _ _ _ _ _ _ _ _ _ _ _ _ _ _ _ W pa pb sa hpw ht
set_option maxHeartbeats 2000000 in
theorem flagged_n (op w fl a b A0 A1 B0 B1 V n1 n2 : Int) (A2 B2 f1 f2 : Bool) (W : World) (hw1 : 1 ≤ w) (hw2 : w ≤ 64) (ho : (op == 11) = false)
    (k2 : bits .and .i64 fl 2 = n2) (k1 : bits .and .i64 fl 1 = n1) (hn : n2 = 0 ∨ n2 = 2) (hm : n1 = 0 ∨ n1 = 1)
    (c1 : Makes 77 #[.int .i64 op, .int .i64 w, .int .u64 a, .int .u64 b, .bool false] (.agg #[.int .u64 A0, .int .u64 A1, .bool A2]))
    (c2 : Makes 77 #[.int .i64 op, .int .i64 w, .int .u64 a, .int .u64 b, .bool true] (.agg #[.int .u64 B0, .int .u64 B1, .bool B2]))
    (c3 : Makes 78 #[.int .i64 w, .agg #[.int .u64 A0, .int .u64 A1, .bool A2], .bool false] (.bool f1))
    (c4 : Makes 78 #[.int .i64 w, .agg #[.int .u64 B0, .int .u64 B1, .bool B2], .bool true] (.bool f2))
    (c5 : Makes 52 #[.int .i64 w, .agg #[.int .u64 A0, .int .u64 A1, .bool A2]] (.int .u64 V)) :
    Calls Try.prog 70 #[.int .i64 op, .int .i64 w, .int .i64 fl, .int .u64 a, .int .u64 b] W fun e w' =>
      e = .returned (.tuple #[.int .u64 (if (n2 != 0 && !f1) || (n1 != 0 && !f2) then 0 else V), .int .i64 (if (n2 != 0 && !f1) || (n1 != 0 && !f2) then 1 else 0)]) ∧ Kept W w' := by
  rcases hn with rfl | rfl <;> rcases hm with rfl | rfl <;> cases f1 <;> cases f2
  all_goals
    go_enter Try.func70, Try.ntmps70
    go_wp2_with (first
      | ((with_reducible refine (c1.go _).mono ?_); rintro e w1 ⟨rfl, hb1⟩)
      | ((with_reducible refine (c2.go _).mono ?_); rintro e w2 ⟨rfl, hb2⟩
         have hz2 := ksz hb2
         have M2 := (Blk.new _ _ _ _ _).kept hb2
         obtain ⟨v_s, v_0, v_1, v_2, v_f⟩ := id M2
         have K2 := (hb1.alloc _ _).trans hb2)
      | ((with_reducible refine (c3.go _).mono ?_); rintro e w3 ⟨rfl, hb3⟩
         have M3 := (M2.alloc _ _).kept hb3
         have N3 := (Blk.new _ _ _ _ _).kept hb3
         have K3 := (K2.alloc _ _).trans hb3
         obtain ⟨x_s, x_0, x_1, x_2, x_f⟩ := id M3
         obtain ⟨y_s, y_0, y_1, y_2, y_f⟩ := N3)
      | ((with_reducible refine (c4.go _).mono ?_); rintro e w4 ⟨rfl, hb4⟩
         have M4 := M3.kept hb4
         have K4 := K3.trans hb4
         obtain ⟨z_s, z_0, z_1, z_2, z_f⟩ := M4)
      | ((with_reducible refine (c5.go _).mono ?_); rintro e w5 ⟨rfl, hb5⟩
         have K5 := K4.trans hb5))
    go_ret2
    exact ⟨ret_two rfl rfl, by first | exact K5 | exact K4⟩
set_option maxHeartbeats 2000000 in
theorem flagged_11 (w fl a b A0 A1 B0 B1 V n1 n2 : Int) (A2 B2 f1 f2 : Bool) (W : World) (hw1 : 1 ≤ w) (hw2 : w ≤ 64) (y : Int) (hy0 : 0 ≤ y) (hy : y < w) (c0 : ∀ W, Calls Try.prog 48 #[.int .i64 w, .int .u64 b] W fun e w' => e = .returned (.int .u64 y) ∧ W = w')
    (k2 : bits .and .i64 fl 2 = n2) (k1 : bits .and .i64 fl 1 = n1) (hn : n2 = 0 ∨ n2 = 2) (hm : n1 = 0 ∨ n1 = 1)
    (c1 : Makes 77 #[.int .i64 11, .int .i64 w, .int .u64 a, .int .u64 b, .bool false] (.agg #[.int .u64 A0, .int .u64 A1, .bool A2]))
    (c2 : Makes 77 #[.int .i64 11, .int .i64 w, .int .u64 a, .int .u64 b, .bool true] (.agg #[.int .u64 B0, .int .u64 B1, .bool B2]))
    (c3 : Makes 78 #[.int .i64 w, .agg #[.int .u64 A0, .int .u64 A1, .bool A2], .bool false] (.bool f1))
    (c4 : Makes 78 #[.int .i64 w, .agg #[.int .u64 B0, .int .u64 B1, .bool B2], .bool true] (.bool f2))
    (c5 : Makes 52 #[.int .i64 w, .agg #[.int .u64 A0, .int .u64 A1, .bool A2]] (.int .u64 V)) :
    Calls Try.prog 70 #[.int .i64 11, .int .i64 w, .int .i64 fl, .int .u64 a, .int .u64 b] W fun e w' =>
      e = .returned (.tuple #[.int .u64 (if (n2 != 0 && !f1) || (n1 != 0 && !f2) then 0 else V), .int .i64 (if (n2 != 0 && !f1) || (n1 != 0 && !f2) then 1 else 0)]) ∧ Kept W w' := by
  rcases hn with rfl | rfl <;> rcases hm with rfl | rfl <;> cases f1 <;> cases f2
  all_goals
    go_enter Try.func70, Try.ntmps70
    go_wp2_with (first
      | ((with_reducible refine (c0 _).mono ?_); rintro e w0 ⟨rfl, rfl⟩)
      | ((with_reducible refine (c1.go _).mono ?_); rintro e w1 ⟨rfl, hb1⟩)
      | ((with_reducible refine (c2.go _).mono ?_); rintro e w2 ⟨rfl, hb2⟩
         have hz2 := ksz hb2
         have M2 := (Blk.new _ _ _ _ _).kept hb2
         obtain ⟨v_s, v_0, v_1, v_2, v_f⟩ := id M2
         have K2 := (hb1.alloc _ _).trans hb2)
      | ((with_reducible refine (c3.go _).mono ?_); rintro e w3 ⟨rfl, hb3⟩
         have M3 := (M2.alloc _ _).kept hb3
         have N3 := (Blk.new _ _ _ _ _).kept hb3
         have K3 := (K2.alloc _ _).trans hb3
         obtain ⟨x_s, x_0, x_1, x_2, x_f⟩ := id M3
         obtain ⟨y_s, y_0, y_1, y_2, y_f⟩ := N3)
      | ((with_reducible refine (c4.go _).mono ?_); rintro e w4 ⟨rfl, hb4⟩
         have M4 := M3.kept hb4
         have K4 := K3.trans hb4
         obtain ⟨z_s, z_0, z_1, z_2, z_f⟩ := M4)
      | ((with_reducible refine (c5.go _).mono ?_); rintro e w5 ⟨rfl, hb5⟩
         have K5 := K4.trans hb5))
    go_ret2
    exact ⟨ret_two rfl rfl, by first | exact K5 | exact K4⟩
theorem flagged_over (w fl a b y : Int) (W : World) (hw1 : 1 ≤ w) (hw2 : w ≤ 64) (hy0 : 0 ≤ y) (hy : w ≤ y) (c0 : ∀ W, Calls Try.prog 48 #[.int .i64 w, .int .u64 b] W fun e w' => e = .returned (.int .u64 y) ∧ W = w') :
    Calls Try.prog 70 #[.int .i64 11, .int .i64 w, .int .i64 fl, .int .u64 a, .int .u64 b] W fun e w' => e = .returned (.tuple #[.int .u64 0, .int .i64 1]) ∧ Kept W w' := by
  go_enter Try.func70, Try.ntmps70
  go_wp2_with ((with_reducible refine (c0 _).mono ?_); rintro e w0 ⟨rfl, rfl⟩)
  go_ret2
  exact ⟨ret_two rfl rfl, Kept.refl _⟩
theorem fit_u {n : Nat} (z : Int) : (z % pw n == z) = decide (0 ≤ z ∧ z < pw n) := by
  have hp := pw_pos n
  rw [Bool.eq_iff_iff, beq_iff_eq, decide_eq_true_eq]
  constructor
  · intro h
    have h1 := Int.emod_nonneg z (show pw n ≠ 0 by omega)
    have h2 := Int.emod_lt_of_pos z hp
    omega
  · rintro ⟨h1, h2⟩; exact Int.emod_eq_of_lt h1 h2
theorem fit_s {w : Int} (h1 : 1 ≤ w) (h2 : w ≤ 64) (z : Int) : (sgn w (z % pw w.toNat) == z) = decide (-pw (w.toNat - 1) ≤ z ∧ z < pw (w.toNat - 1)) := by
  have hp := pw_pos w.toNat
  rw [Bool.eq_iff_iff, beq_iff_eq, decide_eq_true_eq, sgn_in _ h1 h2, Int.emod_emod]
  constructor
  · intro h
    have h3 := sg_bd (n := w.toNat) (by omega) (Int.emod_nonneg z (show pw w.toNat ≠ 0 by omega)) (Int.emod_lt_of_pos z hp)
    omega
  · rintro ⟨h3, h4⟩; exact sg_uniq (by omega) ⟨0, by omega⟩ h3 h4
theorem k_flags (fl : Int) (hf : fl = 0 ∨ fl = 1 ∨ fl = 2 ∨ fl = 3) : ∃ n1 n2 : Int, bits .and .i64 fl 2 = n2 ∧ bits .and .i64 fl 1 = n1 ∧ (n2 = 0 ∨ n2 = 2) ∧ (n1 = 0 ∨ n1 = 1) ∧ (n2 != 0) = decide (fl = 2 ∨ fl = 3) ∧ (n1 != 0) = decide (fl = 1 ∨ fl = 3) := by
  rcases hf with rfl | rfl | rfl | rfl
  · exact ⟨0, 0, by decide +kernel, by decide +kernel, by decide, by decide, by decide, by decide⟩
  · exact ⟨1, 0, by decide +kernel, by decide +kernel, by decide, by decide, by decide, by decide⟩
  · exact ⟨0, 2, by decide +kernel, by decide +kernel, by decide, by decide, by decide, by decide⟩
  · exact ⟨1, 2, by decide +kernel, by decide +kernel, by decide, by decide, by decide, by decide⟩
theorem flagged_eq {n : Nat} {op fl x y n1 n2 V : Int} (f1 f2 : Bool) (hf : fl = 0 ∨ fl = 1 ∨ fl = 2 ∨ fl = 3) (e2 : (n2 != 0) = decide (fl = 2 ∨ fl = 3)) (e1 : (n1 != 0) = decide (fl = 1 ∨ fl = 3))
    (h1 : f1 = !wrB n op x y) (h2 : f2 = !wsB n op x y) (hp : plE n op x y = 0) (hV : V = plV n op x y) :
    Value.tuple #[.int .u64 (if (n2 != 0 && !f1) || (n1 != 0 && !f2) then 0 else V), .int .i64 (if (n2 != 0 && !f1) || (n1 != 0 && !f2) then 1 else 0)] = .tuple #[.int .u64 (aplR n op fl x y), .int .i64 (aplE n op fl x y)] := by
  subst h1 h2 hV
  have hb : brB n op fl x y = ((n2 != 0 && !!wrB n op x y) || (n1 != 0 && !!wsB n op x y)) := by
    have h4 : decide (fl = 4) = false := by rcases hf with rfl | rfl | rfl | rfl <;> rfl
    rw [e1, e2, brB, h4, Bool.false_and, Bool.or_false, Bool.not_not, Bool.not_not]
  rw [← hb]
  unfold aplR aplE
  rw [hp]
  cases brB n op fl x y <;> exact two_eq rfl rfl

theorem flagged_of (op w fl a b : Int) (ho : op = 1 ∨ op = 2 ∨ op = 3) (hf : fl = 0 ∨ fl = 1 ∨ fl = 2 ∨ fl = 3) (h1 : 1 ≤ w) (h2 : w ≤ 64) (ha : 0 ≤ a) (ha' : a ≤ 18446744073709551615) (hb : 0 ≤ b) (hb' : b ≤ 18446744073709551615) :
    Makes 70 #[.int .i64 op, .int .i64 w, .int .i64 fl, .int .u64 a, .int .u64 b] (aplT w op fl a b) := by
  intro W
  obtain ⟨n1, n2, k2, k1, hn, hm, e2, e1⟩ := k_flags fl hf
  have c1 := exact_of op w a b false ho h1 h2 ha ha' hb hb'
  have c2 := exact_of op w a b true ho h1 h2 ha ha' hb hb'
  have c3 := fits_of w (ex op (xOf w a false) (xOf w b false)) h1 h2 false
  have c4 := fits_of w (ex op (xOf w a true) (xOf w b true)) h1 h2 true
  have c5 := Wrapped_of w (ex op (xOf w a false) (xOf w b false)) h1 h2
  have h11 : (op == 11) = false := by rcases ho with rfl | rfl | rfl <;> rfl
  have h11' : ¬ op = 11 := by rcases ho with rfl | rfl | rfl <;> decide
  refine (flagged_n _ _ _ _ _ _ _ _ _ _ _ _ _ _ _ _ W h1 h2 h11 k2 k1 hn hm c1 c2 c3 c4 c5).mono fun e w' ⟨he, hw⟩ => ⟨?_, hw⟩
  rw [he]
  refine congrArg Ending.returned (flagged_eq _ _ hf e2 e1 ?_ ?_ ?_ ?_)
  · simp only [Bool.false_eq_true, if_false, xOf]
    rw [fit_u, wrB, Bool.not_not]
  · simp only [if_true, xOf]
    rw [fit_s h1 h2, wsB, Bool.not_not, if_neg h11', sgn_in a h1 h2, sgn_in b h1 h2]
  · rcases ho with rfl | rfl | rfl <;> rfl
  · rcases ho with rfl | rfl | rfl <;> rfl
theorem flagged_of11 (w fl a b : Int) (hf : fl = 0 ∨ fl = 1 ∨ fl = 2 ∨ fl = 3) (h1 : 1 ≤ w) (h2 : w ≤ 64) (ha : 0 ≤ a) (ha' : a ≤ 18446744073709551615) (hb : 0 ≤ b) (hb' : b ≤ 18446744073709551615) :
    Makes 70 #[.int .i64 11, .int .i64 w, .int .i64 fl, .int .u64 a, .int .u64 b] (aplT w 11 fl a b) := by
  intro W
  have hm0 := mod_u64 b h1 h2
  have c0 := fun W => Cut_any w b W h1 h2 hb hb'
  have hwn : ((w.toNat : Nat) : Int) = w := by omega
  by_cases hy : b % pw w.toNat < w
  · obtain ⟨n1, n2, k2, k1, hn, hm, e2, e1⟩ := k_flags fl hf
    have c1 := exact_of11 w a b false h1 h2 ha ha' hb hb' hy
    have c2 := exact_of11 w a b true h1 h2 ha ha' hb hb' hy
    have c3 := fits_of w (ex 11 (xOf w a false) (b % pw w.toNat)) h1 h2 false
    have c4 := fits_of w (ex 11 (xOf w a true) (b % pw w.toNat)) h1 h2 true
    have c5 := Wrapped_of w (ex 11 (xOf w a false) (b % pw w.toNat)) h1 h2
    refine (flagged_11 _ _ _ _ _ _ _ _ _ _ _ _ _ _ _ W h1 h2 _ hm0.1 hy c0 k2 k1 hn hm c1 c2 c3 c4 c5).mono fun e w' ⟨he, hw⟩ => ⟨?_, hw⟩
    rw [he]
    refine congrArg Ending.returned (flagged_eq _ _ hf e2 e1 ?_ ?_ ?_ ?_)
    · simp only [Bool.false_eq_true, if_false, xOf]
      rw [fit_u, wrB, Bool.not_not]
    · simp only [if_true, xOf]
      rw [fit_s h1 h2, wsB, Bool.not_not, if_pos rfl, sgn_in a h1 h2]
    · simp only [plE, show ¬ ((11 : Int) = 4 ∨ (11 : Int) = 6) by decide, show ¬ ((11 : Int) = 5 ∨ (11 : Int) = 7) by decide, if_false, show ((11 : Int) = 11 ∨ (11 : Int) = 12 ∨ (11 : Int) = 13) by decide, if_true]
      rw [hwn, if_neg (show ¬ w ≤ b % pw w.toNat by omega)]; simp
    · rfl
  · refine (flagged_over w fl a b _ W h1 h2 hm0.1 (by omega) c0).mono fun e w' ⟨he, hw⟩ => ⟨?_, hw⟩
    rw [he]
    have hp : plE w.toNat 11 (a % pw w.toNat) (b % pw w.toNat) = 1 := by
      simp only [plE, show ¬ ((11 : Int) = 4 ∨ (11 : Int) = 6) by decide, show ¬ ((11 : Int) = 5 ∨ (11 : Int) = 7) by decide, if_false, show ((11 : Int) = 11 ∨ (11 : Int) = 12 ∨ (11 : Int) = 13) by decide, if_true]
      rw [hwn, if_pos (show w ≤ b % pw w.toNat by omega)]; simp
    unfold aplT aplR aplE
    rw [hp]
    rfl
theorem Blk.new2 (w : World) (c : Array Value) (t : TypeId) (A B C : Value) (t' : TypeId) : Blk ((w.alloc (.cells c t)).alloc (.cells #[A, B, C] t')) (w.heap.size + 1) A B C := by
  have h := Blk.new (w.alloc (.cells c t)) A B C t'
  have e : (w.alloc (.cells c t)).heap.size = w.heap.size + 1 := by simp
  rwa [e] at h
theorem divided_zero (op w fl a b : Int) (W : World) (c0 : ∀ W, Calls Try.prog 48 #[.int .i64 w, .int .u64 b] W fun e w' => e = .returned (.int .u64 0) ∧ W = w') :
    Calls Try.prog 71 #[.int .i64 op, .int .i64 w, .int .i64 fl, .int .u64 a, .int .u64 b] W fun e w' => e = .returned (.tuple #[.int .u64 0, .int .i64 2]) ∧ Kept W w' := by
  go_enter Try.func71, Try.ntmps71
  go_wp2_with ((with_reducible refine (c0 _).mono ?_); rintro e w0 ⟨rfl, rfl⟩)
  go_ret2
  exact ⟨ret_two rfl rfl, Kept.refl _⟩
set_option maxHeartbeats 2000000 in
theorem divided_4 (w fl a b P0 P1 Q0 Q1 M0 M1 N0 N1 y V : Int) (P2 Q2 M2 N2 f : Bool) (W : World) (hy : ¬ y = 0) (hf : fl = 0 ∨ fl = 4)
    (c0 : ∀ W, Calls Try.prog 48 #[.int .i64 w, .int .u64 b] W fun e w' => e = .returned (.int .u64 y) ∧ W = w')
    (c1 : Makes 79 #[.int .i64 w, .int .u64 a] (.agg #[.int .u64 P0, .int .u64 P1, .bool P2]))
    (c2 : Makes 79 #[.int .i64 w, .int .u64 b] (.agg #[.int .u64 Q0, .int .u64 Q1, .bool Q2]))
    (c5 : Makes 80 #[.agg #[.int .u64 P0, .int .u64 P1, .bool P2], .agg #[.int .u64 Q0, .int .u64 Q1, .bool Q2]] (.tuple #[.agg #[.int .u64 M0, .int .u64 M1, .bool M2], .agg #[.int .u64 N0, .int .u64 N1, .bool N2]]))
    (c6 : Makes 78 #[.int .i64 w, .agg #[.int .u64 M0, .int .u64 M1, .bool M2], .bool false] (.bool f))
    (c7 : Makes 52 #[.int .i64 w, .agg #[.int .u64 M0, .int .u64 M1, .bool M2]] (.int .u64 V)) :
    Calls Try.prog 71 #[.int .i64 4, .int .i64 w, .int .i64 fl, .int .u64 a, .int .u64 b] W fun e w' => e = .returned (.tuple #[.int .u64 (if f then (if decide (fl = 4) && N1 != 0 then 0 else V) else 0), .int .i64 (if f then (if decide (fl = 4) && N1 != 0 then 1 else 0) else 2)]) ∧ Kept W w' := by
  have hn : N1 = 0 ∨ ((N1 == 0) = false ∧ (N1 != 0) = true ∧ ¬ N1 = 0) := by
    by_cases h : N1 = 0
    · exact .inl h
    · exact .inr ⟨by simpa using h, by simpa using h, h⟩
  rcases hf with rfl | rfl <;> cases f <;> rcases hn with rfl | ⟨n1, n2, n3⟩
  all_goals
    go_enter Try.func71, Try.ntmps71
    go_wp2_with (first
      | ((with_reducible refine (c0 _).mono ?_); rintro e w0 ⟨rfl, rfl⟩)
      | ((with_reducible refine (c1.go _).mono ?_); rintro e w1 ⟨rfl, hb1⟩)
      | ((with_reducible refine (c2.go _).mono ?_); rintro e w2 ⟨rfl, hb2⟩
         have hz2 := ksz hb2
         have E2 := (Blk.new _ _ _ _ _).kept hb2
         have K2 := (hb1.alloc _ _).trans hb2
         have hz1 := hb1.1.size
         obtain ⟨a_s, a_0, a_1, a_2, a_f⟩ := id E2)
      | ((with_reducible refine (c5.go _).mono ?_); rintro e w5 ⟨rfl, hb5⟩
         have K5 := (K2.alloc _ _).trans hb5)
      | ((with_reducible refine (c6.go _).mono ?_); rintro e w6 ⟨rfl, hb6⟩
         have M6 := ((Blk.new _ _ _ _ _).alloc _ _).kept hb6
         have N6 := (Blk.new2 _ _ _ _ _ _ _).kept hb6
         have K6 := ((K5.alloc _ _).alloc _ _).trans hb6
         obtain ⟨m_s, m_0, m_1, m_2, m_f⟩ := M6
         obtain ⟨n_s, n_0, n_1, n_2, n_f⟩ := N6)
      | ((with_reducible refine (c7.go _).mono ?_); rintro e w7 ⟨rfl, hb7⟩
         have K7 := K6.trans hb7))
    go_ret2
    exact ⟨ret_two (by first | rfl | (simp [n3])) (by first | rfl | (simp [n3])), by first | exact K7 | exact K6⟩
set_option maxHeartbeats 2000000 in
theorem divided_5 (w fl a b P0 P1 Q0 Q1 X0 X1 Y0 Y1 M0 M1 N0 N1 y V : Int) (P2 Q2 X2 Y2 M2 N2 f : Bool) (W : World) (hy : ¬ y = 0) (hf : fl = 0 ∨ fl = 4)
    (c0 : ∀ W, Calls Try.prog 48 #[.int .i64 w, .int .u64 b] W fun e w' => e = .returned (.int .u64 y) ∧ W = w')
    (c1 : Makes 79 #[.int .i64 w, .int .u64 a] (.agg #[.int .u64 P0, .int .u64 P1, .bool P2]))
    (c2 : Makes 79 #[.int .i64 w, .int .u64 b] (.agg #[.int .u64 Q0, .int .u64 Q1, .bool Q2]))
    (c3 : Makes 53 #[.int .i64 w, .int .u64 a] (.agg #[.int .u64 X0, .int .u64 X1, .bool X2]))
    (c4 : Makes 53 #[.int .i64 w, .int .u64 b] (.agg #[.int .u64 Y0, .int .u64 Y1, .bool Y2]))
    (c5 : Makes 80 #[.agg #[.int .u64 X0, .int .u64 X1, .bool X2], .agg #[.int .u64 Y0, .int .u64 Y1, .bool Y2]] (.tuple #[.agg #[.int .u64 M0, .int .u64 M1, .bool M2], .agg #[.int .u64 N0, .int .u64 N1, .bool N2]]))
    (c6 : Makes 78 #[.int .i64 w, .agg #[.int .u64 M0, .int .u64 M1, .bool M2], .bool true] (.bool f))
    (c7 : Makes 52 #[.int .i64 w, .agg #[.int .u64 M0, .int .u64 M1, .bool M2]] (.int .u64 V)) :
    Calls Try.prog 71 #[.int .i64 5, .int .i64 w, .int .i64 fl, .int .u64 a, .int .u64 b] W fun e w' => e = .returned (.tuple #[.int .u64 (if f then (if decide (fl = 4) && N1 != 0 then 0 else V) else 0), .int .i64 (if f then (if decide (fl = 4) && N1 != 0 then 1 else 0) else 2)]) ∧ Kept W w' := by
  have hn : N1 = 0 ∨ ((N1 == 0) = false ∧ (N1 != 0) = true ∧ ¬ N1 = 0) := by
    by_cases h : N1 = 0
    · exact .inl h
    · exact .inr ⟨by simpa using h, by simpa using h, h⟩
  rcases hf with rfl | rfl <;> cases f <;> rcases hn with rfl | ⟨n1, n2, n3⟩
  all_goals
    go_enter Try.func71, Try.ntmps71
    go_wp2_with (first
      | ((with_reducible refine (c0 _).mono ?_); rintro e w0 ⟨rfl, rfl⟩)
      | ((with_reducible refine (c1.go _).mono ?_); rintro e w1 ⟨rfl, hb1⟩)
      | ((with_reducible refine (c2.go _).mono ?_); rintro e w2 ⟨rfl, hb2⟩
         have hz2 := ksz hb2
         have E2 := (Blk.new _ _ _ _ _).kept hb2
         have K2 := (hb1.alloc _ _).trans hb2
         have hz1 := hb1.1.size
         obtain ⟨a_s, a_0, a_1, a_2, a_f⟩ := id E2)
      | ((with_reducible refine (c3.go _).mono ?_); rintro e w3 ⟨rfl, hb3⟩
         have hz3 := ksz hb3
         have E3 := (E2.alloc _ _).kept hb3
         have F3 := (Blk.new _ _ _ _ _).kept hb3
         have K3 := (K2.alloc _ _).trans hb3
         obtain ⟨b_s, b_0, b_1, b_2, b_f⟩ := id E3)
      | ((with_reducible refine (c4.go _).mono ?_); rintro e w4 ⟨rfl, hb4⟩
         have E4 := (E3.set _ _ _).kept hb4
         have F4 := (F3.far (k := w1.heap.size) (by omega) _ _ _).kept hb4
         have K4 := (K3.set3 (g := w1.heap.size) (by omega) _ _ _).trans hb4
         obtain ⟨c_s, c_0, c_1, c_2, c_f⟩ := id E4
         obtain ⟨d_s, d_0, d_1, d_2, d_f⟩ := id F4)
      | ((with_reducible refine (c5.go _).mono ?_); rintro e w5 ⟨rfl, hb5⟩
         have K5 := (K4.set3 (g := w2.heap.size) (by omega) _ _ _).trans hb5)
      | ((with_reducible refine (c6.go _).mono ?_); rintro e w6 ⟨rfl, hb6⟩
         have M6 := ((Blk.new _ _ _ _ _).alloc _ _).kept hb6
         have N6 := (Blk.new2 _ _ _ _ _ _ _).kept hb6
         have K6 := ((K5.alloc _ _).alloc _ _).trans hb6
         obtain ⟨m_s, m_0, m_1, m_2, m_f⟩ := M6
         obtain ⟨n_s, n_0, n_1, n_2, n_f⟩ := N6)
      | ((with_reducible refine (c7.go _).mono ?_); rintro e w7 ⟨rfl, hb7⟩
         have K7 := K6.trans hb7))
    go_ret2
    exact ⟨ret_two (by first | rfl | (simp [n3])) (by first | rfl | (simp [n3])), by first | exact K7 | exact K6⟩
set_option maxHeartbeats 2000000 in
theorem divided_6 (w fl a b P0 P1 Q0 Q1 M0 M1 N0 N1 y V : Int) (P2 Q2 M2 N2 f : Bool) (W : World) (hy : ¬ y = 0) (hf : fl = 0 ∨ fl = 4)
    (c0 : ∀ W, Calls Try.prog 48 #[.int .i64 w, .int .u64 b] W fun e w' => e = .returned (.int .u64 y) ∧ W = w')
    (c1 : Makes 79 #[.int .i64 w, .int .u64 a] (.agg #[.int .u64 P0, .int .u64 P1, .bool P2]))
    (c2 : Makes 79 #[.int .i64 w, .int .u64 b] (.agg #[.int .u64 Q0, .int .u64 Q1, .bool Q2]))
    (c5 : Makes 80 #[.agg #[.int .u64 P0, .int .u64 P1, .bool P2], .agg #[.int .u64 Q0, .int .u64 Q1, .bool Q2]] (.tuple #[.agg #[.int .u64 M0, .int .u64 M1, .bool M2], .agg #[.int .u64 N0, .int .u64 N1, .bool N2]]))
    (c6 : Makes 78 #[.int .i64 w, .agg #[.int .u64 M0, .int .u64 M1, .bool M2], .bool false] (.bool f))
    (c7 : Makes 52 #[.int .i64 w, .agg #[.int .u64 N0, .int .u64 N1, .bool N2]] (.int .u64 V)) :
    Calls Try.prog 71 #[.int .i64 6, .int .i64 w, .int .i64 fl, .int .u64 a, .int .u64 b] W fun e w' => e = .returned (.tuple #[.int .u64 (if f then V else 0), .int .i64 (if f then 0 else 2)]) ∧ Kept W w' := by
  cases f
  all_goals
    go_enter Try.func71, Try.ntmps71
    go_wp2_with (first
      | ((with_reducible refine (c0 _).mono ?_); rintro e w0 ⟨rfl, rfl⟩)
      | ((with_reducible refine (c1.go _).mono ?_); rintro e w1 ⟨rfl, hb1⟩)
      | ((with_reducible refine (c2.go _).mono ?_); rintro e w2 ⟨rfl, hb2⟩
         have hz2 := ksz hb2
         have E2 := (Blk.new _ _ _ _ _).kept hb2
         have K2 := (hb1.alloc _ _).trans hb2
         have hz1 := hb1.1.size
         obtain ⟨a_s, a_0, a_1, a_2, a_f⟩ := id E2)
      | ((with_reducible refine (c5.go _).mono ?_); rintro e w5 ⟨rfl, hb5⟩
         have K5 := (K2.alloc _ _).trans hb5)
      | ((with_reducible refine (c6.go _).mono ?_); rintro e w6 ⟨rfl, hb6⟩
         have M6 := ((Blk.new _ _ _ _ _).alloc _ _).kept hb6
         have N6 := (Blk.new2 _ _ _ _ _ _ _).kept hb6
         have K6 := ((K5.alloc _ _).alloc _ _).trans hb6
         obtain ⟨m_s, m_0, m_1, m_2, m_f⟩ := M6
         obtain ⟨n_s, n_0, n_1, n_2, n_f⟩ := N6)
      | ((with_reducible refine (c7.go _).mono ?_); rintro e w7 ⟨rfl, hb7⟩
         have K7 := K6.trans hb7))
    go_ret2
    exact ⟨ret_two rfl rfl, by first | exact K7 | exact K6⟩
set_option maxHeartbeats 2000000 in
theorem divided_7 (w fl a b P0 P1 Q0 Q1 X0 X1 Y0 Y1 M0 M1 N0 N1 y V : Int) (P2 Q2 X2 Y2 M2 N2 f : Bool) (W : World) (hy : ¬ y = 0) (hf : fl = 0 ∨ fl = 4)
    (c0 : ∀ W, Calls Try.prog 48 #[.int .i64 w, .int .u64 b] W fun e w' => e = .returned (.int .u64 y) ∧ W = w')
    (c1 : Makes 79 #[.int .i64 w, .int .u64 a] (.agg #[.int .u64 P0, .int .u64 P1, .bool P2]))
    (c2 : Makes 79 #[.int .i64 w, .int .u64 b] (.agg #[.int .u64 Q0, .int .u64 Q1, .bool Q2]))
    (c3 : Makes 53 #[.int .i64 w, .int .u64 a] (.agg #[.int .u64 X0, .int .u64 X1, .bool X2]))
    (c4 : Makes 53 #[.int .i64 w, .int .u64 b] (.agg #[.int .u64 Y0, .int .u64 Y1, .bool Y2]))
    (c5 : Makes 80 #[.agg #[.int .u64 X0, .int .u64 X1, .bool X2], .agg #[.int .u64 Y0, .int .u64 Y1, .bool Y2]] (.tuple #[.agg #[.int .u64 M0, .int .u64 M1, .bool M2], .agg #[.int .u64 N0, .int .u64 N1, .bool N2]]))
    (c6 : Makes 78 #[.int .i64 w, .agg #[.int .u64 M0, .int .u64 M1, .bool M2], .bool true] (.bool f))
    (c7 : Makes 52 #[.int .i64 w, .agg #[.int .u64 N0, .int .u64 N1, .bool N2]] (.int .u64 V)) :
    Calls Try.prog 71 #[.int .i64 7, .int .i64 w, .int .i64 fl, .int .u64 a, .int .u64 b] W fun e w' => e = .returned (.tuple #[.int .u64 (if f then V else 0), .int .i64 (if f then 0 else 2)]) ∧ Kept W w' := by
  cases f
  all_goals
    go_enter Try.func71, Try.ntmps71
    go_wp2_with (first
      | ((with_reducible refine (c0 _).mono ?_); rintro e w0 ⟨rfl, rfl⟩)
      | ((with_reducible refine (c1.go _).mono ?_); rintro e w1 ⟨rfl, hb1⟩)
      | ((with_reducible refine (c2.go _).mono ?_); rintro e w2 ⟨rfl, hb2⟩
         have hz2 := ksz hb2
         have E2 := (Blk.new _ _ _ _ _).kept hb2
         have K2 := (hb1.alloc _ _).trans hb2
         have hz1 := hb1.1.size
         obtain ⟨a_s, a_0, a_1, a_2, a_f⟩ := id E2)
      | ((with_reducible refine (c3.go _).mono ?_); rintro e w3 ⟨rfl, hb3⟩
         have hz3 := ksz hb3
         have E3 := (E2.alloc _ _).kept hb3
         have F3 := (Blk.new _ _ _ _ _).kept hb3
         have K3 := (K2.alloc _ _).trans hb3
         obtain ⟨b_s, b_0, b_1, b_2, b_f⟩ := id E3)
      | ((with_reducible refine (c4.go _).mono ?_); rintro e w4 ⟨rfl, hb4⟩
         have E4 := (E3.set _ _ _).kept hb4
         have F4 := (F3.far (k := w1.heap.size) (by omega) _ _ _).kept hb4
         have K4 := (K3.set3 (g := w1.heap.size) (by omega) _ _ _).trans hb4
         obtain ⟨c_s, c_0, c_1, c_2, c_f⟩ := id E4
         obtain ⟨d_s, d_0, d_1, d_2, d_f⟩ := id F4)
      | ((with_reducible refine (c5.go _).mono ?_); rintro e w5 ⟨rfl, hb5⟩
         have K5 := (K4.set3 (g := w2.heap.size) (by omega) _ _ _).trans hb5)
      | ((with_reducible refine (c6.go _).mono ?_); rintro e w6 ⟨rfl, hb6⟩
         have M6 := ((Blk.new _ _ _ _ _).alloc _ _).kept hb6
         have N6 := (Blk.new2 _ _ _ _ _ _ _).kept hb6
         have K6 := ((K5.alloc _ _).alloc _ _).trans hb6
         obtain ⟨m_s, m_0, m_1, m_2, m_f⟩ := M6
         obtain ⟨n_s, n_0, n_1, n_2, n_f⟩ := N6)
      | ((with_reducible refine (c7.go _).mono ?_); rintro e w7 ⟨rfl, hb7⟩
         have K7 := K6.trans hb7))
    go_ret2
    exact ⟨ret_two rfl rfl, by first | exact K7 | exact K6⟩
theorem tdiv_in {s t H : Int} (hH : 1 ≤ H) (s1 : -H ≤ s) (s2 : s < H) (t0 : t ≠ 0) : (-H ≤ s.tdiv t ∧ s.tdiv t < H) ↔ ¬ (s = -H ∧ t = -1) := by
  have hn : (s.tdiv t).natAbs = s.natAbs / t.natAbs := Int.natAbs_tdiv s t
  by_cases h : t = -1
  · subst h
    rw [Int.tdiv_neg, Int.tdiv_one]; omega
  · by_cases h1 : t = 1
    · subst h1
      rw [Int.tdiv_one]; omega
    · have h2 : s.natAbs / t.natAbs ≤ s.natAbs / 2 := Nat.div_le_div_left (by omega) (by omega)
      generalize s.tdiv t = z at *
      omega
theorem sg_ends {n : Nat} (h1 : 1 ≤ n) {x y : Int} (hx : 0 ≤ x) (hx' : x < pw n) (hy : 0 ≤ y) (hy' : y < pw n) : (sg n x = -pw (n - 1) ∧ sg n y = -1) ↔ (x = pw (n - 1) ∧ y = pw n - 1) := by
  have hh := pw_half h1
  have hp := pw_pos (n - 1)
  unfold sg
  split <;> split <;> omega
theorem rest_u64 {s t : Int} (hs : -18446744073709551616 < s ∧ s < 18446744073709551616) : (mag (s.tmod t) % 18446744073709551616 != 0) = (s.tmod t != 0) := by
  have hn : (s.tmod t).natAbs = s.natAbs % t.natAbs := Int.natAbs_tmod s t
  have hl : s.natAbs % t.natAbs ≤ s.natAbs := Nat.mod_le _ _
  generalize s.tmod t = z at *
  rw [Bool.eq_iff_iff]
  simp only [bne_iff_ne, ne_eq]
  unfold mag
  split <;> omega
theorem quo_mod {x y M : Int} (hx : 0 ≤ x) (hx' : x < M) (hy : 0 ≤ y) : x.tdiv y % M = x / y := by
  rw [Int.tdiv_eq_ediv_of_nonneg hx]
  have h1 : 0 ≤ x / y := Int.ediv_nonneg hx hy
  have h2 := Int.ediv_le_self y hx
  exact Int.emod_eq_of_lt h1 (by omega)
theorem quo_fits {x y M : Int} (hx : 0 ≤ x) (hx' : x < M) (hy : 0 ≤ y) : (x.tdiv y % M == x.tdiv y) = true := by
  rw [quo_mod hx hx' hy, Int.tdiv_eq_ediv_of_nonneg hx]; exact beq_self_eq_true _
theorem plE_5 {n : Nat} {op x y : Int} (ho : op = 5 ∨ op = 7) : plE n op x y = if y = 0 ∨ (x = pw (n - 1) ∧ y = pw n - 1) then 2 else 0 := by
  rcases ho with rfl | rfl <;> rfl
theorem plE_4 {n : Nat} {op x y : Int} (ho : op = 4 ∨ op = 6) : plE n op x y = if y = 0 then 2 else 0 := by
  rcases ho with rfl | rfl <;> rfl
theorem brB_div {n : Nat} {op fl x y : Int} (hf : fl = 0 ∨ fl = 4) : brB n op fl x y = (decide (fl = 4) && lrB n op x y) := by
  unfold brB
  rcases hf with rfl | rfl <;> simp

theorem divided_of (op w fl a b : Int) (ho : (op = 4 ∨ op = 5) ∧ (fl = 0 ∨ fl = 4) ∨ (op = 6 ∨ op = 7) ∧ fl = 0) (h1 : 1 ≤ w) (h2 : w ≤ 64) (ha : 0 ≤ a) (ha' : a ≤ 18446744073709551615) (hb : 0 ≤ b) (hb' : b ≤ 18446744073709551615) :
    Makes 71 #[.int .i64 op, .int .i64 w, .int .i64 fl, .int .u64 a, .int .u64 b] (aplT w op fl a b) := by
  intro W
  have hp := pw_pos w.toNat
  have hl := pw_le64 (n := w.toNat) (by omega)
  have x0 := Int.emod_nonneg a (show pw w.toNat ≠ 0 by omega)
  have x1 := Int.emod_lt_of_pos a hp
  have y0 := Int.emod_nonneg b (show pw w.toNat ≠ 0 by omega)
  have y1 := Int.emod_lt_of_pos b hp
  have c0 := fun W => Cut_any w b W h1 h2 hb hb'
  by_cases hy : b % pw w.toNat = 0
  · rw [hy] at c0
    refine (divided_zero op w fl a b W c0).mono fun e w' ⟨he, hw⟩ => ⟨?_, hw⟩
    rw [he]
    have hE : plE w.toNat op (a % pw w.toNat) (b % pw w.toNat) = 2 := by
      rw [hy]
      rcases ho with ⟨rfl | rfl, _⟩ | ⟨rfl | rfl, _⟩
      · rw [plE_4 (by decide), if_pos rfl]
      · rw [plE_5 (by decide), if_pos (Or.inl rfl)]
      · rw [plE_4 (by decide), if_pos rfl]
      · rw [plE_5 (by decide), if_pos (Or.inl rfl)]
    unfold aplT aplR aplE
    rw [hE]
    rfl
  · have c1 := Plain_of w a h1 h2 ha ha'
    have c2 := Plain_of w b h1 h2 hb hb'
    have c3 := With_of w a h1 h2 ha ha'
    have c4 := With_of w b h1 h2 hb hb'
    have sb := sgn_bd w a
    have tb := sgn_bd w b
    have es := sgn_in a h1 h2
    have et := sgn_in b h1 h2
    have sb2 := sg_bd (n := w.toNat) (by omega) x0 x1
    have hH := pw_pos (w.toNat - 1)
    have tz := sg_nz (n := w.toNat) (by omega) y0 y1 hy
    have hin := tdiv_in (by omega) sb2.1 sb2.2 tz
    rw [sg_ends (by omega) x0 x1 y0 y1] at hin
    have tz' : sgn w b ≠ 0 := by rw [et]; exact tz
    have cq := quotient_of (sgn w a) (sgn w b) ⟨by omega, by omega⟩ ⟨by omega, by omega⟩ tz'
    have cu := quotient_of (a % pw w.toNat) (b % pw w.toNat) ⟨by omega, by omega⟩ ⟨by omega, by omega⟩ hy
    have hfS : (sgn w ((sgn w a).tdiv (sgn w b) % pw w.toNat) == (sgn w a).tdiv (sgn w b)) = decide (¬ (a % pw w.toNat = pw (w.toNat - 1) ∧ b % pw w.toNat = pw w.toNat - 1)) := by
      rw [fit_s h1 h2, es, et, decide_eq_decide]; exact hin
    have hE4 : ∀ op, op = 4 ∨ op = 6 → plE w.toNat op (a % pw w.toNat) (b % pw w.toNat) = 0 := fun op h => by rw [plE_4 h, if_neg hy]
    have hE5 : ∀ op, op = 5 ∨ op = 7 → plE w.toNat op (a % pw w.toNat) (b % pw w.toNat) = if a % pw w.toNat = pw (w.toNat - 1) ∧ b % pw w.toNat = pw w.toNat - 1 then 2 else 0 := fun op h => by
      rw [plE_5 h]
      by_cases hc : a % pw w.toNat = pw (w.toNat - 1) ∧ b % pw w.toNat = pw w.toNat - 1
      · rw [if_pos (Or.inr hc), if_pos hc]
      · rw [if_neg (fun h => h.elim hy hc), if_neg hc]
    have rS := rest_u64 (s := sgn w a) (t := sgn w b) ⟨by omega, by omega⟩
    have rU := rest_u64 (s := a % pw w.toNat) (t := b % pw w.toNat) ⟨by omega, by omega⟩
    have eU : (a % pw w.toNat).tmod (b % pw w.toNat) = a % pw w.toNat % (b % pw w.toNat) := Int.tmod_eq_emod_of_nonneg x0
    rcases ho with ⟨rfl | rfl, hf⟩ | ⟨rfl | rfl, rfl⟩
    · refine (divided_4 _ _ _ _ _ _ _ _ _ _ _ _ _ _ _ _ _ _ _ W hy hf c0 c1 c2 cu (fits_of w _ h1 h2 false) (Wrapped_of w _ h1 h2)).mono fun e w' ⟨he, hw⟩ => ⟨?_, hw⟩
      rw [he]
      refine congrArg Ending.returned ?_
      simp only [Bool.false_eq_true, if_false]
      rw [quo_fits x0 x1 y0, rU, eU, quo_mod x0 x1 y0]
      unfold aplT aplR aplE
      rw [hE4 4 (by decide), brB_div hf]
      simp only [if_true, lrB]
      cases hc : decide (fl = 4) && a % pw w.toNat % (b % pw w.toNat) != 0 <;> exact two_eq rfl rfl
    · refine (divided_5 _ _ _ _ _ _ _ _ _ _ _ _ _ _ _ _ _ _ _ _ _ _ _ _ _ W hy hf c0 c1 c2 c3 c4 cq (fits_of w _ h1 h2 true) (Wrapped_of w _ h1 h2)).mono fun e w' ⟨he, hw⟩ => ⟨?_, hw⟩
      rw [he]
      refine congrArg Ending.returned ?_
      simp only [if_true]
      rw [hfS, rS]
      unfold aplT aplR aplE
      rw [hE5 5 (by decide), brB_div hf]
      by_cases hc : a % pw w.toNat = pw (w.toNat - 1) ∧ b % pw w.toNat = pw w.toNat - 1
      · rw [decide_eq_false (not_not_intro hc), if_pos hc]
        exact two_eq rfl rfl
      · rw [decide_eq_true hc, if_neg hc]
        simp only [if_true, lrB, ← es, ← et, show ¬ (5 : Int) = 4 by decide, if_false]
        cases hd : decide (fl = 4) && (sgn w a).tmod (sgn w b) != 0
        · exact two_eq (by rw [es, et]; rfl) rfl
        · exact two_eq rfl rfl
    · refine (divided_6 _ _ _ _ _ _ _ _ _ _ _ _ _ _ _ _ _ _ _ W hy (Or.inl rfl) c0 c1 c2 cu (fits_of w _ h1 h2 false) (Wrapped_of w _ h1 h2)).mono fun e w' ⟨he, hw⟩ => ⟨?_, hw⟩
      rw [he]
      refine congrArg Ending.returned ?_
      simp only [Bool.false_eq_true, if_false]
      rw [quo_fits x0 x1 y0, eU]
      unfold aplT aplR aplE
      rw [hE4 6 (by decide), brB_div (Or.inl rfl)]
      have m0 := Int.emod_nonneg (a % pw w.toNat) hy
      have m1 := Int.emod_lt_of_pos (a % pw w.toNat) (show 0 < b % pw w.toNat by omega)
      rw [Int.emod_eq_of_lt m0 (by omega)]
      exact two_eq rfl rfl
    · refine (divided_7 _ _ _ _ _ _ _ _ _ _ _ _ _ _ _ _ _ _ _ _ _ _ _ _ _ W hy (Or.inl rfl) c0 c1 c2 c3 c4 cq (fits_of w _ h1 h2 true) (Wrapped_of w _ h1 h2)).mono fun e w' ⟨he, hw⟩ => ⟨?_, hw⟩
      rw [he]
      refine congrArg Ending.returned ?_
      simp only [if_true]
      rw [hfS]
      unfold aplT aplR aplE
      rw [hE5 7 (by decide), brB_div (Or.inl rfl)]
      by_cases hc : a % pw w.toNat = pw (w.toNat - 1) ∧ b % pw w.toNat = pw w.toNat - 1
      · rw [decide_eq_false (not_not_intro hc), if_pos hc]
        exact two_eq rfl rfl
      · rw [decide_eq_true hc, if_neg hc]
        exact two_eq (by rw [es, et]; rfl) rfl
end Go.Proofs.Ytpjfkmaceaikbaa
