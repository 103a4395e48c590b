/- Contract of the document's answers (package latheref01): right. -/
import Derived.Test.YthhdgfhndijmeaaRefN
namespace Go.Proofs.Ythhdgfhndijmeaa
open Go.RowKit
set_option linter.unusedVariables false
set_option linter.unusedSimpArgs false

theorem Blk.drew {w : World} {g : Nat} {A B C : Value} (h : Blk w g A B C) : Blk w.drew g A B C := h
theorem Blk.newd (w : World) (A B C : Value) (t : TypeId) : Blk (w.drew.alloc (.cells #[A, B, C] t)) w.heap.size A B C := Blk.new w.drew A B C t
theorem Blk.new2d (w : World) (c : Array Value) (t : TypeId) (A B C : Value) (t' : TypeId) : Blk ((w.drew.alloc (.cells c t)).alloc (.cells #[A, B, C] t')) (w.heap.size + 1) A B C := Blk.new2 w.drew c t A B C t'
theorem Blk.new2e (w : World) (c : Array Value) (t : TypeId) (A B C : Value) (t' : TypeId) : Blk ((w.alloc (.cells c t)).drew.alloc (.cells #[A, B, C] t')) (w.heap.size + 1) A B C := by
  have h := Blk.new (w.alloc (.cells c t)).drew A B C t'
  have e : (w.alloc (.cells c t)).drew.heap.size = w.heap.size + 1 := by show (w.alloc (.cells c t)).heap.size = _; simp
  rwa [e] at h
theorem Kept.drew {W w : World} (h : Kept W w) : Kept W w.drew := h.drewN 1
theorem Blk.set' {w : World} {g : Nat} {A B C : Value} (A' B' C' : Value) (h : Blk w g A B C) : Blk (((w.setCell ⟨g, 0, none⟩ A').setCell ⟨g, 1, none⟩ B').setCell ⟨g, 2, none⟩ C') g A' B' C' := h.set A' B' C'
theorem Blk.new3 (w : World) (k : Nat) (a b c A B C : Value) (t : TypeId) : Blk ((((w.setCell ⟨k, 0, none⟩ a).setCell ⟨k, 1, none⟩ b).setCell ⟨k, 2, none⟩ c).alloc (.cells #[A, B, C] t)) w.heap.size A B C := by
  have h := Blk.new (((w.setCell ⟨k, 0, none⟩ a).setCell ⟨k, 1, none⟩ b).setCell ⟨k, 2, none⟩ c) A B C t
  have e : (((w.setCell ⟨k, 0, none⟩ a).setCell ⟨k, 1, none⟩ b).setCell ⟨k, 2, none⟩ c).heap.size = w.heap.size := by simp [World.setCell]
  rwa [e] at h
theorem Blk.far' {w : World} {g : Nat} {A B C : Value} {k : Nat} (A' B' C' : Value) (hk : k ≠ g) (h : Blk w g A B C) : Blk (((w.setCell ⟨k, 0, none⟩ A').setCell ⟨k, 1, none⟩ B').setCell ⟨k, 2, none⟩ C') g A B C := h.far hk A' B' C'

set_option maxHeartbeats 2000000 in
theorem right_12 (w fl a b P0 P1 M0 M1 N0 N1 T0 T1 y V : Int) (P2 M2 T2 : Bool) (W : World) (hw1 : 1 ≤ w) (hw2 : w ≤ 64) (hy0 : 0 ≤ y) (hy : y < w) (hf : fl = 0 ∨ fl = 4)
    (c0 : ∀ W, Calls Try.prog 35 #[.int .i64 w, .int .u64 b] W fun e w' => e = .returned (.int .u64 y) ∧ W = w')
    (c1 : Makes 47 #[.int .i64 w, .int .u64 a] (.agg #[.int .u64 P0, .int .u64 P1, .bool P2]))
    (c6 : Makes 50 #[.int .u64 y] (.agg #[.int .u64 T0, .int .u64 T1, .bool T2]))
    (c5 : Makes 48 #[.agg #[.int .u64 P0, .int .u64 P1, .bool P2], .agg #[.int .u64 T0, .int .u64 T1, .bool T2]] (.tuple #[.agg #[.int .u64 M0, .int .u64 M1, .bool M2], .agg #[.int .u64 N0, .int .u64 N1, .bool false]]))
    (c7 : Makes 36 #[.int .i64 w, .agg #[.int .u64 M0, .int .u64 M1, .bool M2]] (.int .u64 V)) :
    Calls Try.prog 33 #[.int .i64 12, .int .i64 w, .int .i64 fl, .int .u64 a, .int .u64 b] W fun e w' =>
      e = .returned (.tuple #[.int .u64 (if decide (fl = 4) && N1 != 0 then 0 else V), .int .i64 (if decide (fl = 4) && N1 != 0 then 1 else 0)]) ∧ Kept W w' := by
  have hbu := build_lb
  go_enter Try.func33, Try.ntmps33
  go_upto_region 7 with (first
      | ((with_reducible refine (c0 _).mono ?_); rintro e w0 ⟨rfl, rfl⟩)
      | ((with_reducible refine (c1.go _).mono ?_); rintro e w1 ⟨rfl, hb1⟩))
  have B := Blk.new w1 (.int .u64 P0) (.int .u64 P1) (.bool P2) 46
  have K := hb1.alloc #[.int .u64 P0, .int .u64 P1, .bool P2] 46
  have hz : W.heap.size ≤ w1.heap.size := hb1.1.size
  obtain ⟨gx, hgx⟩ : ∃ gx, gx = w1.heap.size := ⟨_, rfl⟩
  rw [← hgx] at B hz ⊢
  generalize hwq : w1.alloc (.cells #[.int .u64 P0, .int .u64 P1, .bool P2] 46) = wq at *
  clear hwq hgx hb1
  obtain ⟨x_s, x_0, x_1, x_2, x_f⟩ := id B
  have dr : ∀ a, wq.drew.cell? a = wq.cell? a := fun _ => rfl
  go_cut [14, 15] (fun s14 s15 wx => ∃ g h : Nat, s14 = .pointer (some ⟨g, 0, none⟩) ∧ s15 = .pointer (some ⟨h, 0, none⟩) ∧ Blk wx g (.int .u64 M0) (.int .u64 M1) (.bool M2) ∧ Blk wx h (.int .u64 N0) (.int .u64 N1) (.bool false) ∧ W.heap.size ≤ g ∧ W.heap.size ≤ h ∧ Kept W wx)
  case first =>
    go_region_held3 (fun w' => w'.cell? ⟨gx, 0, none⟩ = some (.int .u64 P0) ∧ w'.cell? ⟨gx, 1, none⟩ = some (.int .u64 P1) ∧ w'.cell? ⟨gx, 2, none⟩ = some (.bool P2))
        (((try dsimp only); (repeat' apply And.intro) <;> ((repeat (first | rw [World.cell?_drew] | rw [World.cell?_alloc_past _ _ _ (by first | omega | (simp <;> omega))] | rw [World.cell?_setCell_far _ _ _ _ (by dsimp only; first | omega | (simp <;> omega))])); with_reducible assumption)))
        (first
          | ((with_reducible refine (c6.go _).mono ?_); rintro e w5 ⟨rfl, hb5⟩
             have L5 : Kept wq w5 := Kept.trans (by repeat (first | (with_reducible exact Kept.refl _) | (with_reducible apply Kept.drew) | (with_reducible apply Kept.alloc))) hb5
             have hz5 := L5.1.size
             have B5 := Blk.kept (g := gx) (A := .int .u64 P0) (B := .int .u64 P1) (C := .bool P2) (by repeat (first | (with_reducible exact B) | (with_reducible apply Blk.drew) | (with_reducible apply Blk.alloc))) hb5
             obtain ⟨u_s, u_0, u_1, u_2, u_f⟩ := id B5
             try (obtain ⟨z1_s, z1_0, z1_1, z1_2, z1_f⟩ : Blk w5 wq.heap.size (.int .u64 0) (.int .u64 0) (.bool false)
                  focus (refine Blk.kept ?_ hb5; (repeat (first | (with_reducible exact Blk.new _ _ _ _ _) | (with_reducible exact Blk.newd _ _ _ _ _) | (with_reducible apply Blk.drew) | (with_reducible apply Blk.alloc))); done)
                  have Z1 : Blk w5 wq.heap.size (.int .u64 0) (.int .u64 0) (.bool false) := ⟨z1_s, z1_0, z1_1, z1_2, z1_f⟩)
             try (obtain ⟨z2_s, z2_0, z2_1, z2_2, z2_f⟩ : Blk w5 (wq.heap.size + 1) (.int .u64 0) (.int .u64 0) (.bool false)
                  focus (refine Blk.kept ?_ hb5; (repeat (first | (with_reducible exact Blk.new2 _ _ _ _ _ _ _) | (with_reducible exact Blk.new2d _ _ _ _ _ _ _) | (with_reducible exact Blk.new2e _ _ _ _ _ _ _) | (with_reducible apply Blk.drew) | (with_reducible apply Blk.alloc))); done)
                  have Z2 : Blk w5 (wq.heap.size + 1) (.int .u64 0) (.int .u64 0) (.bool false) := ⟨z2_s, z2_0, z2_1, z2_2, z2_f⟩))
          | ((with_reducible refine (c5.go _).mono ?_); rintro e w6 ⟨rfl, hb6⟩
             have L6 : Kept w5 w6 := Kept.trans (by repeat (first | (with_reducible exact Kept.refl _) | (with_reducible apply Kept.drew) | (with_reducible apply Kept.alloc))) hb6
             have hz6 := L6.1.size
             have B6 := Blk.kept (g := gx) (A := .int .u64 P0) (B := .int .u64 P1) (C := .bool P2) (by repeat (first | (with_reducible exact B5) | (with_reducible apply Blk.drew) | (with_reducible apply Blk.alloc))) hb6
             obtain ⟨v_s, v_0, v_1, v_2, v_f⟩ := id B6
             try (obtain ⟨y1_s, y1_0, y1_1, y1_2, y1_f⟩ : Blk w6 wq.heap.size (.int .u64 0) (.int .u64 0) (.bool false)
                  focus (refine Blk.kept ?_ hb6; (repeat (first | (with_reducible exact Z1) | (with_reducible apply Blk.drew) | (with_reducible apply Blk.alloc))); done)
                  have Y1 : Blk w6 wq.heap.size (.int .u64 0) (.int .u64 0) (.bool false) := ⟨y1_s, y1_0, y1_1, y1_2, y1_f⟩)
             try (obtain ⟨y2_s, y2_0, y2_1, y2_2, y2_f⟩ : Blk w6 (wq.heap.size + 1) (.int .u64 0) (.int .u64 0) (.bool false)
                  focus (refine Blk.kept ?_ hb6; (repeat (first | (with_reducible exact Z2) | (with_reducible apply Blk.drew) | (with_reducible apply Blk.alloc))); done)
                  have Y2 : Blk w6 (wq.heap.size + 1) (.int .u64 0) (.int .u64 0) (.bool false) := ⟨y2_s, y2_0, y2_1, y2_2, y2_f⟩)
             try (obtain ⟨y3_s, y3_0, y3_1, y3_2, y3_f⟩ : Blk w6 w5.heap.size (.int .u64 0) (.int .u64 0) (.bool false)
                  focus (refine Blk.kept ?_ hb6; (repeat (first | (with_reducible exact Blk.new _ _ _ _ _) | (with_reducible exact Blk.newd _ _ _ _ _) | (with_reducible apply Blk.drew) | (with_reducible apply Blk.alloc))); done)
                  have Y3 : Blk w6 w5.heap.size (.int .u64 0) (.int .u64 0) (.bool false) := ⟨y3_s, y3_0, y3_1, y3_2, y3_f⟩)
             try (obtain ⟨y4_s, y4_0, y4_1, y4_2, y4_f⟩ : Blk w6 (w5.heap.size + 1) (.int .u64 0) (.int .u64 0) (.bool false)
                  focus (refine Blk.kept ?_ hb6; (repeat (first | (with_reducible exact Blk.new2 _ _ _ _ _ _ _) | (with_reducible exact Blk.new2d _ _ _ _ _ _ _) | (with_reducible exact Blk.new2e _ _ _ _ _ _ _) | (with_reducible apply Blk.drew) | (with_reducible apply Blk.alloc))); done)
                  have Y4 : Blk w6 (w5.heap.size + 1) (.int .u64 0) (.int .u64 0) (.bool false) := ⟨y4_s, y4_0, y4_1, y4_2, y4_f⟩)))
    all_goals (go_wp2_with fail; go_meet)
    all_goals
      refine ⟨_, _, rfl, rfl, ?_, ?_, ?_, ?_, ?_⟩
    all_goals clear x_0 x_1 x_2 x_f u_0 u_1 u_2 u_f v_0 v_1 v_2 v_f dr c0 c1 c5 c6 c7
    all_goals (first | ((with_reducible show _ ≤ _); omega) | skip)
    all_goals have KW5 := K.trans L5
    all_goals have KW6 := KW5.trans L6
    all_goals clear hb5 hb6 L5 L6 B
    all_goals (repeat (first
      | (with_reducible assumption)
      | (with_reducible apply Blk.new) | (with_reducible apply Blk.new2) | (with_reducible apply Blk.new3)
      | (with_reducible apply Blk.set') | (with_reducible apply Blk.far' _ _ _ (by omega)) | (with_reducible apply Blk.alloc)
      | (with_reducible apply Kept.alloc) | (with_reducible apply Kept.drew) | (with_reducible apply Kept.setCell (ha := (by dsimp only; omega)))))
  case rest =>
    obtain ⟨g, h, rfl, rfl, G, H, hg, hh, KK⟩ := hcut
    obtain ⟨wo, rfl⟩ : ∃ wo : World, wo = wc := ⟨_, rfl⟩
    obtain ⟨g_s, g_0, g_1, g_2, g_f⟩ := id G
    obtain ⟨h_s, h_0, h_1, h_2, h_f⟩ := id H
    clear B x_0 x_1 x_2 x_f dr K c0 c1 c5 c6
    have hn : N1 = 0 ∨ ((N1 == 0) = false ∧ (N1 != 0) = true ∧ ¬ N1 = 0) := by
      by_cases h : N1 = 0
      · exact .inl h
      · exact .inr ⟨by simpa using h, by simpa using h, h⟩
    rcases hf with rfl | rfl <;> rcases hn with rfl | ⟨n1, n2, n3⟩
    all_goals
      go_wp2_with (first
        | ((with_reducible refine (c7.go _).mono ?_); rintro e w7 ⟨rfl, hb7⟩
           have K7 := KK.trans hb7))
      go_ret2
      exact ⟨ret_two (by first | rfl | (simp [n3])) (by first | rfl | (simp [n3])), by first | exact K7 | exact KK⟩
set_option maxHeartbeats 2000000 in
theorem right_13f (w fl a b P0 P1 X0 X1 M0 M1 N0 N1 T0 T1 y V : Int) (P2 X2 M2 T2 : Bool) (W : World) (hw1 : 1 ≤ w) (hw2 : w ≤ 64) (hy0 : 0 ≤ y) (hy : y < w) (hf : fl = 0 ∨ fl = 4)
    (c0 : ∀ W, Calls Try.prog 35 #[.int .i64 w, .int .u64 b] W fun e w' => e = .returned (.int .u64 y) ∧ W = w')
    (c1 : Makes 47 #[.int .i64 w, .int .u64 a] (.agg #[.int .u64 P0, .int .u64 P1, .bool P2]))
    (c2 : Makes 37 #[.int .i64 w, .int .u64 a] (.agg #[.int .u64 X0, .int .u64 X1, .bool X2]))
    (c6 : Makes 50 #[.int .u64 y] (.agg #[.int .u64 T0, .int .u64 T1, .bool T2]))
    (c5 : Makes 48 #[.agg #[.int .u64 X0, .int .u64 X1, .bool X2], .agg #[.int .u64 T0, .int .u64 T1, .bool T2]] (.tuple #[.agg #[.int .u64 M0, .int .u64 M1, .bool M2], .agg #[.int .u64 N0, .int .u64 N1, .bool false]]))
    (c7 : Makes 36 #[.int .i64 w, .agg #[.int .u64 M0, .int .u64 M1, .bool M2]] (.int .u64 V)) :
    Calls Try.prog 33 #[.int .i64 13, .int .i64 w, .int .i64 fl, .int .u64 a, .int .u64 b] W fun e w' =>
      e = .returned (.tuple #[.int .u64 (if decide (fl = 4) && N1 != 0 then 0 else V), .int .i64 (if decide (fl = 4) && N1 != 0 then 1 else 0)]) ∧ Kept W w' := by
  have hbu := build_lb
  go_enter Try.func33, Try.ntmps33
  go_upto_region 7 with (first
      | ((with_reducible refine (c0 _).mono ?_); rintro e w0 ⟨rfl, rfl⟩)
      | ((with_reducible refine (c1.go _).mono ?_); rintro e w1 ⟨rfl, hb1⟩)
      | ((with_reducible refine (c2.go _).mono ?_); rintro e w2 ⟨rfl, hb2⟩
         have B2 := (Blk.new _ _ _ _ _).kept hb2
         have K2 := (hb1.alloc _ _).trans hb2
         obtain ⟨a_s, a_0, a_1, a_2, a_f⟩ := id B2))
  have hz : W.heap.size ≤ w1.heap.size := hb1.1.size
  have B := B2.set (.int .u64 X0) (.int .u64 X1) (.bool X2)
  have K := K2.set3 (g := w1.heap.size) hz (.int .u64 X0) (.int .u64 X1) (.bool X2)
  unfold set3 at B K
  clear B2 K2 a_s a_0 a_1 a_2 a_f
  generalize hwq : ((w2.setCell ⟨w1.heap.size, 0, none⟩ (.int .u64 X0)).setCell ⟨w1.heap.size, 1, none⟩ (.int .u64 X1)).setCell ⟨w1.heap.size, 2, none⟩ (.bool X2) = wq at *
  clear hwq hb2
  obtain ⟨gx, hgx⟩ : ∃ gx, gx = w1.heap.size := ⟨_, rfl⟩
  rw [← hgx] at B hz ⊢
  clear hgx hb1
  obtain ⟨x_s, x_0, x_1, x_2, x_f⟩ := id B
  have dr : ∀ a, wq.drew.cell? a = wq.cell? a := fun _ => rfl
  go_cut [14, 15] (fun s14 s15 wx => ∃ g h : Nat, s14 = .pointer (some ⟨g, 0, none⟩) ∧ s15 = .pointer (some ⟨h, 0, none⟩) ∧ Blk wx g (.int .u64 M0) (.int .u64 M1) (.bool M2) ∧ Blk wx h (.int .u64 N0) (.int .u64 N1) (.bool false) ∧ W.heap.size ≤ g ∧ W.heap.size ≤ h ∧ Kept W wx)
  case first =>
    go_region_held3 (fun w' => w'.cell? ⟨gx, 0, none⟩ = some (.int .u64 X0) ∧ w'.cell? ⟨gx, 1, none⟩ = some (.int .u64 X1) ∧ w'.cell? ⟨gx, 2, none⟩ = some (.bool X2))
        (((try dsimp only); (repeat' apply And.intro) <;> ((repeat (first | rw [World.cell?_drew] | rw [World.cell?_alloc_past _ _ _ (by first | omega | (simp <;> omega))] | rw [World.cell?_setCell_far _ _ _ _ (by dsimp only; first | omega | (simp <;> omega))])); with_reducible assumption)))
        (first
          | ((with_reducible refine (c6.go _).mono ?_); rintro e w5 ⟨rfl, hb5⟩
             have L5 : Kept wq w5 := Kept.trans (by repeat (first | (with_reducible exact Kept.refl _) | (with_reducible apply Kept.drew) | (with_reducible apply Kept.alloc))) hb5
             have hz5 := L5.1.size
             have B5 := Blk.kept (g := gx) (A := .int .u64 X0) (B := .int .u64 X1) (C := .bool X2) (by repeat (first | (with_reducible exact B) | (with_reducible apply Blk.drew) | (with_reducible apply Blk.alloc))) hb5
             obtain ⟨u_s, u_0, u_1, u_2, u_f⟩ := id B5
             try (obtain ⟨z1_s, z1_0, z1_1, z1_2, z1_f⟩ : Blk w5 wq.heap.size (.int .u64 0) (.int .u64 0) (.bool false)
                  focus (refine Blk.kept ?_ hb5; (repeat (first | (with_reducible exact Blk.new _ _ _ _ _) | (with_reducible exact Blk.newd _ _ _ _ _) | (with_reducible apply Blk.drew) | (with_reducible apply Blk.alloc))); done)
                  have Z1 : Blk w5 wq.heap.size (.int .u64 0) (.int .u64 0) (.bool false) := ⟨z1_s, z1_0, z1_1, z1_2, z1_f⟩)
             try (obtain ⟨z2_s, z2_0, z2_1, z2_2, z2_f⟩ : Blk w5 (wq.heap.size + 1) (.int .u64 0) (.int .u64 0) (.bool false)
                  focus (refine Blk.kept ?_ hb5; (repeat (first | (with_reducible exact Blk.new2 _ _ _ _ _ _ _) | (with_reducible exact Blk.new2d _ _ _ _ _ _ _) | (with_reducible exact Blk.new2e _ _ _ _ _ _ _) | (with_reducible apply Blk.drew) | (with_reducible apply Blk.alloc))); done)
                  have Z2 : Blk w5 (wq.heap.size + 1) (.int .u64 0) (.int .u64 0) (.bool false) := ⟨z2_s, z2_0, z2_1, z2_2, z2_f⟩))
          | ((with_reducible refine (c5.go _).mono ?_); rintro e w6 ⟨rfl, hb6⟩
             have L6 : Kept w5 w6 := Kept.trans (by repeat (first | (with_reducible exact Kept.refl _) | (with_reducible apply Kept.drew) | (with_reducible apply Kept.alloc))) hb6
             have hz6 := L6.1.size
             have B6 := Blk.kept (g := gx) (A := .int .u64 X0) (B := .int .u64 X1) (C := .bool X2) (by repeat (first | (with_reducible exact B5) | (with_reducible apply Blk.drew) | (with_reducible apply Blk.alloc))) hb6
             obtain ⟨v_s, v_0, v_1, v_2, v_f⟩ := id B6
             try (obtain ⟨y1_s, y1_0, y1_1, y1_2, y1_f⟩ : Blk w6 wq.heap.size (.int .u64 0) (.int .u64 0) (.bool false)
                  focus (refine Blk.kept ?_ hb6; (repeat (first | (with_reducible exact Z1) | (with_reducible apply Blk.drew) | (with_reducible apply Blk.alloc))); done)
                  have Y1 : Blk w6 wq.heap.size (.int .u64 0) (.int .u64 0) (.bool false) := ⟨y1_s, y1_0, y1_1, y1_2, y1_f⟩)
             try (obtain ⟨y2_s, y2_0, y2_1, y2_2, y2_f⟩ : Blk w6 (wq.heap.size + 1) (.int .u64 0) (.int .u64 0) (.bool false)
                  focus (refine Blk.kept ?_ hb6; (repeat (first | (with_reducible exact Z2) | (with_reducible apply Blk.drew) | (with_reducible apply Blk.alloc))); done)
                  have Y2 : Blk w6 (wq.heap.size + 1) (.int .u64 0) (.int .u64 0) (.bool false) := ⟨y2_s, y2_0, y2_1, y2_2, y2_f⟩)
             try (obtain ⟨y3_s, y3_0, y3_1, y3_2, y3_f⟩ : Blk w6 w5.heap.size (.int .u64 0) (.int .u64 0) (.bool false)
                  focus (refine Blk.kept ?_ hb6; (repeat (first | (with_reducible exact Blk.new _ _ _ _ _) | (with_reducible exact Blk.newd _ _ _ _ _) | (with_reducible apply Blk.drew) | (with_reducible apply Blk.alloc))); done)
                  have Y3 : Blk w6 w5.heap.size (.int .u64 0) (.int .u64 0) (.bool false) := ⟨y3_s, y3_0, y3_1, y3_2, y3_f⟩)
             try (obtain ⟨y4_s, y4_0, y4_1, y4_2, y4_f⟩ : Blk w6 (w5.heap.size + 1) (.int .u64 0) (.int .u64 0) (.bool false)
                  focus (refine Blk.kept ?_ hb6; (repeat (first | (with_reducible exact Blk.new2 _ _ _ _ _ _ _) | (with_reducible exact Blk.new2d _ _ _ _ _ _ _) | (with_reducible exact Blk.new2e _ _ _ _ _ _ _) | (with_reducible apply Blk.drew) | (with_reducible apply Blk.alloc))); done)
                  have Y4 : Blk w6 (w5.heap.size + 1) (.int .u64 0) (.int .u64 0) (.bool false) := ⟨y4_s, y4_0, y4_1, y4_2, y4_f⟩)))
    all_goals (go_wp2_with fail; go_meet)
    all_goals
      refine ⟨_, _, rfl, rfl, ?_, ?_, ?_, ?_, ?_⟩
    all_goals clear x_0 x_1 x_2 x_f u_0 u_1 u_2 u_f v_0 v_1 v_2 v_f dr c0 c1 c5 c6 c7
    all_goals (first | ((with_reducible show _ ≤ _); omega) | skip)
    all_goals have KW5 := K.trans L5
    all_goals have KW6 := KW5.trans L6
    all_goals clear hb5 hb6 L5 L6 B
    all_goals (repeat (first
      | (with_reducible assumption)
      | (with_reducible apply Blk.new) | (with_reducible apply Blk.new2) | (with_reducible apply Blk.new3)
      | (with_reducible apply Blk.set') | (with_reducible apply Blk.far' _ _ _ (by omega)) | (with_reducible apply Blk.alloc)
      | (with_reducible apply Kept.alloc) | (with_reducible apply Kept.drew) | (with_reducible apply Kept.setCell (ha := (by dsimp only; omega)))))
  case rest =>
    obtain ⟨g, h, rfl, rfl, G, H, hg, hh, KK⟩ := hcut
    obtain ⟨wo, rfl⟩ : ∃ wo : World, wo = wc := ⟨_, rfl⟩
    obtain ⟨g_s, g_0, g_1, g_2, g_f⟩ := id G
    obtain ⟨h_s, h_0, h_1, h_2, h_f⟩ := id H
    clear B x_0 x_1 x_2 x_f dr K c0 c1 c5 c6
    have hn : N1 = 0 ∨ ((N1 == 0) = false ∧ (N1 != 0) = true ∧ ¬ N1 = 0) := by
      by_cases h : N1 = 0
      · exact .inl h
      · exact .inr ⟨by simpa using h, by simpa using h, h⟩
    rcases hf with rfl | rfl <;> rcases hn with rfl | ⟨n1, n2, n3⟩
    all_goals
      go_wp2_with (first
        | ((with_reducible refine (c7.go _).mono ?_); rintro e w7 ⟨rfl, hb7⟩
           have K7 := KK.trans hb7))
      go_ret2
      exact ⟨ret_two (by first | rfl | (simp [n3])) (by first | rfl | (simp [n3])), by first | exact K7 | exact KK⟩
set_option maxHeartbeats 2000000 in
theorem right_13t (w fl a b P0 P1 X0 X1 M0 M1 N0 N1 T0 T1 S0 S1 y V : Int) (P2 X2 M2 T2 S2 : Bool) (W : World) (hw1 : 1 ≤ w) (hw2 : w ≤ 64) (hy0 : 0 ≤ y) (hy : y < w) (hf : fl = 0 ∨ fl = 4)
    (c0 : ∀ W, Calls Try.prog 35 #[.int .i64 w, .int .u64 b] W fun e w' => e = .returned (.int .u64 y) ∧ W = w')
    (c1 : Makes 47 #[.int .i64 w, .int .u64 a] (.agg #[.int .u64 P0, .int .u64 P1, .bool P2]))
    (c2 : Makes 37 #[.int .i64 w, .int .u64 a] (.agg #[.int .u64 X0, .int .u64 X1, .bool X2]))
    (c6 : Makes 50 #[.int .u64 y] (.agg #[.int .u64 T0, .int .u64 T1, .bool T2]))
    (c5 : Makes 48 #[.agg #[.int .u64 X0, .int .u64 X1, .bool X2], .agg #[.int .u64 T0, .int .u64 T1, .bool T2]] (.tuple #[.agg #[.int .u64 M0, .int .u64 M1, .bool M2], .agg #[.int .u64 N0, .int .u64 N1, .bool true]]))
    (c8 : Makes 51 #[.agg #[.int .u64 M0, .int .u64 M1, .bool M2], .agg #[.int .u64 0, .int .u64 1, .bool true]] (.agg #[.int .u64 S0, .int .u64 S1, .bool S2]))
    (c7 : Makes 36 #[.int .i64 w, .agg #[.int .u64 S0, .int .u64 S1, .bool S2]] (.int .u64 V)) :
    Calls Try.prog 33 #[.int .i64 13, .int .i64 w, .int .i64 fl, .int .u64 a, .int .u64 b] W fun e w' =>
      e = .returned (.tuple #[.int .u64 (if decide (fl = 4) && N1 != 0 then 0 else V), .int .i64 (if decide (fl = 4) && N1 != 0 then 1 else 0)]) ∧ Kept W w' := by
  have hbu := build_lb
  go_enter Try.func33, Try.ntmps33
  go_upto_region 7 with (first
      | ((with_reducible refine (c0 _).mono ?_); rintro e w0 ⟨rfl, rfl⟩)
      | ((with_reducible refine (c1.go _).mono ?_); rintro e w1 ⟨rfl, hb1⟩)
      | ((with_reducible refine (c2.go _).mono ?_); rintro e w2 ⟨rfl, hb2⟩
         have B2 := (Blk.new _ _ _ _ _).kept hb2
         have K2 := (hb1.alloc _ _).trans hb2
         obtain ⟨a_s, a_0, a_1, a_2, a_f⟩ := id B2))
  have hz : W.heap.size ≤ w1.heap.size := hb1.1.size
  have B := B2.set (.int .u64 X0) (.int .u64 X1) (.bool X2)
  have K := K2.set3 (g := w1.heap.size) hz (.int .u64 X0) (.int .u64 X1) (.bool X2)
  unfold set3 at B K
  clear B2 K2 a_s a_0 a_1 a_2 a_f
  generalize hwq : ((w2.setCell ⟨w1.heap.size, 0, none⟩ (.int .u64 X0)).setCell ⟨w1.heap.size, 1, none⟩ (.int .u64 X1)).setCell ⟨w1.heap.size, 2, none⟩ (.bool X2) = wq at *
  clear hwq hb2
  obtain ⟨gx, hgx⟩ : ∃ gx, gx = w1.heap.size := ⟨_, rfl⟩
  rw [← hgx] at B hz ⊢
  clear hgx hb1
  obtain ⟨x_s, x_0, x_1, x_2, x_f⟩ := id B
  have dr : ∀ a, wq.drew.cell? a = wq.cell? a := fun _ => rfl
  go_cut [14, 15] (fun s14 s15 wx => ∃ g h : Nat, s14 = .pointer (some ⟨g, 0, none⟩) ∧ s15 = .pointer (some ⟨h, 0, none⟩) ∧ Blk wx g (.int .u64 M0) (.int .u64 M1) (.bool M2) ∧ Blk wx h (.int .u64 N0) (.int .u64 N1) (.bool true) ∧ W.heap.size ≤ g ∧ W.heap.size ≤ h ∧ Kept W wx)
  case first =>
    go_region_held3 (fun w' => w'.cell? ⟨gx, 0, none⟩ = some (.int .u64 X0) ∧ w'.cell? ⟨gx, 1, none⟩ = some (.int .u64 X1) ∧ w'.cell? ⟨gx, 2, none⟩ = some (.bool X2))
        (((try dsimp only); (repeat' apply And.intro) <;> ((repeat (first | rw [World.cell?_drew] | rw [World.cell?_alloc_past _ _ _ (by first | omega | (simp <;> omega))] | rw [World.cell?_setCell_far _ _ _ _ (by dsimp only; first | omega | (simp <;> omega))])); with_reducible assumption)))
        (first
          | ((with_reducible refine (c6.go _).mono ?_); rintro e w5 ⟨rfl, hb5⟩
             have L5 : Kept wq w5 := Kept.trans (by repeat (first | (with_reducible exact Kept.refl _) | (with_reducible apply Kept.drew) | (with_reducible apply Kept.alloc))) hb5
             have hz5 := L5.1.size
             have B5 := Blk.kept (g := gx) (A := .int .u64 X0) (B := .int .u64 X1) (C := .bool X2) (by repeat (first | (with_reducible exact B) | (with_reducible apply Blk.drew) | (with_reducible apply Blk.alloc))) hb5
             obtain ⟨u_s, u_0, u_1, u_2, u_f⟩ := id B5
             try (obtain ⟨z1_s, z1_0, z1_1, z1_2, z1_f⟩ : Blk w5 wq.heap.size (.int .u64 0) (.int .u64 0) (.bool false)
                  focus (refine Blk.kept ?_ hb5; (repeat (first | (with_reducible exact Blk.new _ _ _ _ _) | (with_reducible exact Blk.newd _ _ _ _ _) | (with_reducible apply Blk.drew) | (with_reducible apply Blk.alloc))); done)
                  have Z1 : Blk w5 wq.heap.size (.int .u64 0) (.int .u64 0) (.bool false) := ⟨z1_s, z1_0, z1_1, z1_2, z1_f⟩)
             try (obtain ⟨z2_s, z2_0, z2_1, z2_2, z2_f⟩ : Blk w5 (wq.heap.size + 1) (.int .u64 0) (.int .u64 0) (.bool false)
                  focus (refine Blk.kept ?_ hb5; (repeat (first | (with_reducible exact Blk.new2 _ _ _ _ _ _ _) | (with_reducible exact Blk.new2d _ _ _ _ _ _ _) | (with_reducible exact Blk.new2e _ _ _ _ _ _ _) | (with_reducible apply Blk.drew) | (with_reducible apply Blk.alloc))); done)
                  have Z2 : Blk w5 (wq.heap.size + 1) (.int .u64 0) (.int .u64 0) (.bool false) := ⟨z2_s, z2_0, z2_1, z2_2, z2_f⟩))
          | ((with_reducible refine (c5.go _).mono ?_); rintro e w6 ⟨rfl, hb6⟩
             have L6 : Kept w5 w6 := Kept.trans (by repeat (first | (with_reducible exact Kept.refl _) | (with_reducible apply Kept.drew) | (with_reducible apply Kept.alloc))) hb6
             have hz6 := L6.1.size
             have B6 := Blk.kept (g := gx) (A := .int .u64 X0) (B := .int .u64 X1) (C := .bool X2) (by repeat (first | (with_reducible exact B5) | (with_reducible apply Blk.drew) | (with_reducible apply Blk.alloc))) hb6
             obtain ⟨v_s, v_0, v_1, v_2, v_f⟩ := id B6
             try (obtain ⟨y1_s, y1_0, y1_1, y1_2, y1_f⟩ : Blk w6 wq.heap.size (.int .u64 0) (.int .u64 0) (.bool false)
                  focus (refine Blk.kept ?_ hb6; (repeat (first | (with_reducible exact Z1) | (with_reducible apply Blk.drew) | (with_reducible apply Blk.alloc))); done)
                  have Y1 : Blk w6 wq.heap.size (.int .u64 0) (.int .u64 0) (.bool false) := ⟨y1_s, y1_0, y1_1, y1_2, y1_f⟩)
             try (obtain ⟨y2_s, y2_0, y2_1, y2_2, y2_f⟩ : Blk w6 (wq.heap.size + 1) (.int .u64 0) (.int .u64 0) (.bool false)
                  focus (refine Blk.kept ?_ hb6; (repeat (first | (with_reducible exact Z2) | (with_reducible apply Blk.drew) | (with_reducible apply Blk.alloc))); done)
                  have Y2 : Blk w6 (wq.heap.size + 1) (.int .u64 0) (.int .u64 0) (.bool false) := ⟨y2_s, y2_0, y2_1, y2_2, y2_f⟩)
             try (obtain ⟨y3_s, y3_0, y3_1, y3_2, y3_f⟩ : Blk w6 w5.heap.size (.int .u64 0) (.int .u64 0) (.bool false)
                  focus (refine Blk.kept ?_ hb6; (repeat (first | (with_reducible exact Blk.new _ _ _ _ _) | (with_reducible exact Blk.newd _ _ _ _ _) | (with_reducible apply Blk.drew) | (with_reducible apply Blk.alloc))); done)
                  have Y3 : Blk w6 w5.heap.size (.int .u64 0) (.int .u64 0) (.bool false) := ⟨y3_s, y3_0, y3_1, y3_2, y3_f⟩)
             try (obtain ⟨y4_s, y4_0, y4_1, y4_2, y4_f⟩ : Blk w6 (w5.heap.size + 1) (.int .u64 0) (.int .u64 0) (.bool false)
                  focus (refine Blk.kept ?_ hb6; (repeat (first | (with_reducible exact Blk.new2 _ _ _ _ _ _ _) | (with_reducible exact Blk.new2d _ _ _ _ _ _ _) | (with_reducible exact Blk.new2e _ _ _ _ _ _ _) | (with_reducible apply Blk.drew) | (with_reducible apply Blk.alloc))); done)
                  have Y4 : Blk w6 (w5.heap.size + 1) (.int .u64 0) (.int .u64 0) (.bool false) := ⟨y4_s, y4_0, y4_1, y4_2, y4_f⟩)))
    all_goals (go_wp2_with fail; go_meet)
    all_goals
      refine ⟨_, _, rfl, rfl, ?_, ?_, ?_, ?_, ?_⟩
    all_goals clear x_0 x_1 x_2 x_f u_0 u_1 u_2 u_f v_0 v_1 v_2 v_f dr c0 c1 c5 c6 c7
    all_goals (first | ((with_reducible show _ ≤ _); omega) | skip)
    all_goals have KW5 := K.trans L5
    all_goals have KW6 := KW5.trans L6
    all_goals clear hb5 hb6 L5 L6 B
    all_goals (repeat (first
      | (with_reducible assumption)
      | (with_reducible apply Blk.new) | (with_reducible apply Blk.new2) | (with_reducible apply Blk.new3)
      | (with_reducible apply Blk.set') | (with_reducible apply Blk.far' _ _ _ (by omega)) | (with_reducible apply Blk.alloc)
      | (with_reducible apply Kept.alloc) | (with_reducible apply Kept.drew) | (with_reducible apply Kept.setCell (ha := (by dsimp only; omega)))))
  case rest =>
    obtain ⟨g, h, rfl, rfl, G, H, hg, hh, KK⟩ := hcut
    obtain ⟨wo, rfl⟩ : ∃ wo : World, wo = wc := ⟨_, rfl⟩
    obtain ⟨g_s, g_0, g_1, g_2, g_f⟩ := id G
    obtain ⟨h_s, h_0, h_1, h_2, h_f⟩ := id H
    clear B x_0 x_1 x_2 x_f dr K c0 c1 c5 c6
    have hn : N1 = 0 ∨ ((N1 == 0) = false ∧ (N1 != 0) = true ∧ ¬ N1 = 0) := by
      by_cases h : N1 = 0
      · exact .inl h
      · exact .inr ⟨by simpa using h, by simpa using h, h⟩
    rcases hf with rfl | rfl <;> rcases hn with rfl | ⟨n1, n2, n3⟩
    all_goals
      go_wp2_with (first
        | ((with_reducible refine (c8.go _).mono ?_); rintro e w8 ⟨rfl, hb8⟩
           have G8 := G.kept hb8
           have K8 := KK.trans hb8
           obtain ⟨p_s, p_0, p_1, p_2, p_f⟩ := id G8
           have G9 := G8.set (.int .u64 S0) (.int .u64 S1) (.bool S2)
           obtain ⟨q_s, q_0, q_1, q_2, q_f⟩ := id G9
           unfold set3 at q_s q_0 q_1 q_2 q_f)
        | ((with_reducible refine (c7.go _).mono ?_); rintro e w7 ⟨rfl, hb7⟩
           have K7 := (K8.set3 (g := g) hg _ _ _).trans hb7))
      go_ret2
      exact ⟨ret_two (by first | rfl | (simp [n3])) (by first | rfl | (simp [n3])), by first | exact K7 | exact KK⟩
theorem right_over (op w fl a b y : Int) (W : World) (hw1 : 1 ≤ w) (hw2 : w ≤ 64) (hy0 : 0 ≤ y) (hy : w ≤ y) (c0 : ∀ W, Calls Try.prog 35 #[.int .i64 w, .int .u64 b] W fun e w' => e = .returned (.int .u64 y) ∧ W = w') :
    Calls Try.prog 33 #[.int .i64 op, .int .i64 w, .int .i64 fl, .int .u64 a, .int .u64 b] W fun e w' => e = .returned (.tuple #[.int .u64 0, .int .i64 1]) ∧ Kept W w' := by
  go_enter Try.func33, Try.ntmps33
  go_wp2_with ((with_reducible refine (c0 _).mono ?_); rintro e w0 ⟨rfl, rfl⟩)
  go_ret2
  exact ⟨ret_two rfl rfl, Kept.refl _⟩
end Go.Proofs.Ythhdgfhndijmeaa
