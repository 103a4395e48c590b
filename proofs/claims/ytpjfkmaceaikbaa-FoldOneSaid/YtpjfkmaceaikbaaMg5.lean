/- Several texts in one: RefO, RefP, RefQ, RefR, EvF, BitsJ, RefS. -/
import Derived.Laws.Bits64
import Derived.Laws.Bits64b
import Derived.Test.YtpjfkmaceaikbaaMg4
namespace Go.Proofs.Ytpjfkmaceaikbaa
open Go.RowKit
set_option linter.unusedVariables false
set_option linter.unusedSimpArgs false

theorem Blk.drew {w : World} {g : Nat} {A B C : Value} (h : Blk w g A B C) : Blk w.drew g A B C := h
theorem Blk.newd (w : World) (A B C : Value) (t : TypeId) : Blk (w.drew.alloc (.cells #[A, B, C] t)) w.heap.size A B C := Blk.new w.drew A B C t
theorem Blk.new2d (w : World) (c : Array Value) (t : TypeId) (A B C : Value) (t' : TypeId) : Blk ((w.drew.alloc (.cells c t)).alloc (.cells #[A, B, C] t')) (w.heap.size + 1) A B C := Blk.new2 w.drew c t A B C t'
theorem Blk.new2e (w : World) (c : Array Value) (t : TypeId) (A B C : Value) (t' : TypeId) : Blk ((w.alloc (.cells c t)).drew.alloc (.cells #[A, B, C] t')) (w.heap.size + 1) A B C := by
  have h := Blk.new (w.alloc (.cells c t)).drew A B C t'
  have e : (w.alloc (.cells c t)).drew.heap.size = w.heap.size + 1 := by show (w.alloc (.cells c t)).heap.size = _; simp
  rwa [e] at h
theorem Kept.drew {W w : World} (h : Kept W w) : Kept W w.drew := h.drewN 1
theorem Blk.set' {w : World} {g : Nat} {A B C : Value} (A' B' C' : Value) (h : Blk w g A B C) : Blk (((w.setCell ⟨g, 0, none⟩ A').setCell ⟨g, 1, none⟩ B').setCell ⟨g, 2, none⟩ C') g A' B' C' := h.set A' B' C'
theorem Blk.new3 (w : World) (k : Nat) (a b c A B C : Value) (t : TypeId) : Blk ((((w.setCell ⟨k, 0, none⟩ a).setCell ⟨k, 1, none⟩ b).setCell ⟨k, 2, none⟩ c).alloc (.cells #[A, B, C] t)) w.heap.size A B C := by
  have h := Blk.new (((w.setCell ⟨k, 0, none⟩ a).setCell ⟨k, 1, none⟩ b).setCell ⟨k, 2, none⟩ c) A B C t
  have e : (((w.setCell ⟨k, 0, none⟩ a).setCell ⟨k, 1, none⟩ b).setCell ⟨k, 2, none⟩ c).heap.size = w.heap.size := by simp [World.setCell]
  rwa [e] at h
theorem Blk.far' {w : World} {g : Nat} {A B C : Value} {k : Nat} (A' B' C' : Value) (hk : k ≠ g) (h : Blk w g A B C) : Blk (((w.setCell ⟨k, 0, none⟩ A').setCell ⟨k, 1, none⟩ B').setCell ⟨k, 2, none⟩ C') g A B C := h.far hk A' B' C'

set_option maxHeartbeats 2000000 in
theorem right_12 (w fl a b P0 P1 M0 M1 N0 N1 T0 T1 y V : Int) (P2 M2 T2 : Bool) (W : World) (hw1 : 1 ≤ w) (hw2 : w ≤ 64) (hy0 : 0 ≤ y) (hy : y < w) (hf : fl = 0 ∨ fl = 4)
    (c0 : ∀ W, Calls Try.prog 48 #[.int .i64 w, .int .u64 b] W fun e w' => e = .returned (.int .u64 y) ∧ W = w')
    (c1 : Makes 79 #[.int .i64 w, .int .u64 a] (.agg #[.int .u64 P0, .int .u64 P1, .bool P2]))
    (c6 : Makes 82 #[.int .u64 y] (.agg #[.int .u64 T0, .int .u64 T1, .bool T2]))
    (c5 : Makes 80 #[.agg #[.int .u64 P0, .int .u64 P1, .bool P2], .agg #[.int .u64 T0, .int .u64 T1, .bool T2]] (.tuple #[.agg #[.int .u64 M0, .int .u64 M1, .bool M2], .agg #[.int .u64 N0, .int .u64 N1, .bool false]]))
    (c7 : Makes 52 #[.int .i64 w, .agg #[.int .u64 M0, .int .u64 M1, .bool M2]] (.int .u64 V)) :
    Calls Try.prog 73 #[.int .i64 12, .int .i64 w, .int .i64 fl, .int .u64 a, .int .u64 b] W fun e w' =>
      e = .returned (.tuple #[.int .u64 (if decide (fl = 4) && N1 != 0 then 0 else V), .int .i64 (if decide (fl = 4) && N1 != 0 then 1 else 0)]) ∧ Kept W w' := by
  have hbu := build_lb
  go_enter Try.func73, Try.ntmps73
  go_upto_region 7 with (first
      | ((with_reducible refine (c0 _).mono ?_); rintro e w0 ⟨rfl, rfl⟩)
      | ((with_reducible refine (c1.go _).mono ?_); rintro e w1 ⟨rfl, hb1⟩))
  have B := Blk.new w1 (.int .u64 P0) (.int .u64 P1) (.bool P2) 68
  have K := hb1.alloc #[.int .u64 P0, .int .u64 P1, .bool P2] 68
  have hz : W.heap.size ≤ w1.heap.size := hb1.1.size
  obtain ⟨gx, hgx⟩ : ∃ gx, gx = w1.heap.size := ⟨_, rfl⟩
  rw [← hgx] at B hz ⊢
  generalize hwq : w1.alloc (.cells #[.int .u64 P0, .int .u64 P1, .bool P2] 68) = wq at *
  clear hwq hgx hb1
  obtain ⟨x_s, x_0, x_1, x_2, x_f⟩ := id B
  have dr : ∀ a, wq.drew.cell? a = wq.cell? a := fun _ => rfl
  go_cut [14, 15] (fun s14 s15 wx => ∃ g h : Nat, s14 = .pointer (some ⟨g, 0, none⟩) ∧ s15 = .pointer (some ⟨h, 0, none⟩) ∧ Blk wx g (.int .u64 M0) (.int .u64 M1) (.bool M2) ∧ Blk wx h (.int .u64 N0) (.int .u64 N1) (.bool false) ∧ W.heap.size ≤ g ∧ W.heap.size ≤ h ∧ Kept W wx)
  case first =>
    go_region_held3 (fun w' => w'.cell? ⟨gx, 0, none⟩ = some (.int .u64 P0) ∧ w'.cell? ⟨gx, 1, none⟩ = some (.int .u64 P1) ∧ w'.cell? ⟨gx, 2, none⟩ = some (.bool P2))
        (((try dsimp only); (repeat' apply And.intro) <;> ((repeat (first | rw [World.cell?_drew] | rw [World.cell?_alloc_past _ _ _ (by first | omega | (simp <;> omega))] | rw [World.cell?_setCell_far _ _ _ _ (by dsimp only; first | omega | (simp <;> omega))])); with_reducible assumption)))
        (first
          | ((with_reducible refine (c6.go _).mono ?_); rintro e w5 ⟨rfl, hb5⟩
             have L5 : Kept wq w5 := Kept.trans (by repeat (first | (with_reducible exact Kept.refl _) | (with_reducible apply Kept.drew) | (with_reducible apply Kept.alloc))) hb5
             have hz5 := L5.1.size
             have B5 := Blk.kept (g := gx) (A := .int .u64 P0) (B := .int .u64 P1) (C := .bool P2) (by repeat (first | (with_reducible exact B) | (with_reducible apply Blk.drew) | (with_reducible apply Blk.alloc))) hb5
             obtain ⟨u_s, u_0, u_1, u_2, u_f⟩ := id B5
             try (obtain ⟨z1_s, z1_0, z1_1, z1_2, z1_f⟩ : Blk w5 wq.heap.size (.int .u64 0) (.int .u64 0) (.bool false)
                  focus (refine Blk.kept ?_ hb5; (repeat (first | (with_reducible exact Blk.new _ _ _ _ _) | (with_reducible exact Blk.newd _ _ _ _ _) | (with_reducible apply Blk.drew) | (with_reducible apply Blk.alloc))); done)
                  have Z1 : Blk w5 wq.heap.size (.int .u64 0) (.int .u64 0) (.bool false) := ⟨z1_s, z1_0, z1_1, z1_2, z1_f⟩)
             try (obtain ⟨z2_s, z2_0, z2_1, z2_2, z2_f⟩ : Blk w5 (wq.heap.size + 1) (.int .u64 0) (.int .u64 0) (.bool false)
                  focus (refine Blk.kept ?_ hb5; (repeat (first | (with_reducible exact Blk.new2 _ _ _ _ _ _ _) | (with_reducible exact Blk.new2d _ _ _ _ _ _ _) | (with_reducible exact Blk.new2e _ _ _ _ _ _ _) | (with_reducible apply Blk.drew) | (with_reducible apply Blk.alloc))); done)
                  have Z2 : Blk w5 (wq.heap.size + 1) (.int .u64 0) (.int .u64 0) (.bool false) := ⟨z2_s, z2_0, z2_1, z2_2, z2_f⟩))
          | ((with_reducible refine (c5.go _).mono ?_); rintro e w6 ⟨rfl, hb6⟩
             have L6 : Kept w5 w6 := Kept.trans (by repeat (first | (with_reducible exact Kept.refl _) | (with_reducible apply Kept.drew) | (with_reducible apply Kept.alloc))) hb6
             have hz6 := L6.1.size
             have B6 := Blk.kept (g := gx) (A := .int .u64 P0) (B := .int .u64 P1) (C := .bool P2) (by repeat (first | (with_reducible exact B5) | (with_reducible apply Blk.drew) | (with_reducible apply Blk.alloc))) hb6
             obtain ⟨v_s, v_0, v_1, v_2, v_f⟩ := id B6
             try (obtain ⟨y1_s, y1_0, y1_1, y1_2, y1_f⟩ : Blk w6 wq.heap.size (.int .u64 0) (.int .u64 0) (.bool false)
                  focus (refine Blk.kept ?_ hb6; (repeat (first | (with_reducible exact Z1) | (with_reducible apply Blk.drew) | (with_reducible apply Blk.alloc))); done)
                  have Y1 : Blk w6 wq.heap.size (.int .u64 0) (.int .u64 0) (.bool false) := ⟨y1_s, y1_0, y1_1, y1_2, y1_f⟩)
             try (obtain ⟨y2_s, y2_0, y2_1, y2_2, y2_f⟩ : Blk w6 (wq.heap.size + 1) (.int .u64 0) (.int .u64 0) (.bool false)
                  focus (refine Blk.kept ?_ hb6; (repeat (first | (with_reducible exact Z2) | (with_reducible apply Blk.drew) | (with_reducible apply Blk.alloc))); done)
                  have Y2 : Blk w6 (wq.heap.size + 1) (.int .u64 0) (.int .u64 0) (.bool false) := ⟨y2_s, y2_0, y2_1, y2_2, y2_f⟩)
             try (obtain ⟨y3_s, y3_0, y3_1, y3_2, y3_f⟩ : Blk w6 w5.heap.size (.int .u64 0) (.int .u64 0) (.bool false)
                  focus (refine Blk.kept ?_ hb6; (repeat (first | (with_reducible exact Blk.new _ _ _ _ _) | (with_reducible exact Blk.newd _ _ _ _ _) | (with_reducible apply Blk.drew) | (with_reducible apply Blk.alloc))); done)
                  have Y3 : Blk w6 w5.heap.size (.int .u64 0) (.int .u64 0) (.bool false) := ⟨y3_s, y3_0, y3_1, y3_2, y3_f⟩)
             try (obtain ⟨y4_s, y4_0, y4_1, y4_2, y4_f⟩ : Blk w6 (w5.heap.size + 1) (.int .u64 0) (.int .u64 0) (.bool false)
                  focus (refine Blk.kept ?_ hb6; (repeat (first | (with_reducible exact Blk.new2 _ _ _ _ _ _ _) | (with_reducible exact Blk.new2d _ _ _ _ _ _ _) | (with_reducible exact Blk.new2e _ _ _ _ _ _ _) | (with_reducible apply Blk.drew) | (with_reducible apply Blk.alloc))); done)
                  have Y4 : Blk w6 (w5.heap.size + 1) (.int .u64 0) (.int .u64 0) (.bool false) := ⟨y4_s, y4_0, y4_1, y4_2, y4_f⟩)))
    all_goals (go_wp2_with fail; go_meet)
    all_goals
      refine ⟨_, _, rfl, rfl, ?_, ?_, ?_, ?_, ?_⟩
    all_goals clear x_0 x_1 x_2 x_f u_0 u_1 u_2 u_f v_0 v_1 v_2 v_f dr c0 c1 c5 c6 c7
    all_goals (first | ((with_reducible show _ ≤ _); omega) | skip)
    all_goals have KW5 := K.trans L5
    all_goals have KW6 := KW5.trans L6
    all_goals clear hb5 hb6 L5 L6 B
    all_goals (repeat (first
      | (with_reducible assumption)
      | (with_reducible apply Blk.new) | (with_reducible apply Blk.new2) | (with_reducible apply Blk.new3)
      | (with_reducible apply Blk.set') | (with_reducible apply Blk.far' _ _ _ (by omega)) | (with_reducible apply Blk.alloc)
      | (with_reducible apply Kept.alloc) | (with_reducible apply Kept.drew) | (with_reducible apply Kept.setCell (ha := (by dsimp only; omega)))))
  case rest =>
    obtain ⟨g, h, rfl, rfl, G, H, hg, hh, KK⟩ := hcut
    obtain ⟨wo, rfl⟩ : ∃ wo : World, wo = wc := ⟨_, rfl⟩
    obtain ⟨g_s, g_0, g_1, g_2, g_f⟩ := id G
    obtain ⟨h_s, h_0, h_1, h_2, h_f⟩ := id H
    clear B x_0 x_1 x_2 x_f dr K c0 c1 c5 c6
    have hn : N1 = 0 ∨ ((N1 == 0) = false ∧ (N1 != 0) = true ∧ ¬ N1 = 0) := by
      by_cases h : N1 = 0
      · exact .inl h
      · exact .inr ⟨by simpa using h, by simpa using h, h⟩
    rcases hf with rfl | rfl <;> rcases hn with rfl | ⟨n1, n2, n3⟩
    all_goals
      go_wp2_with (first
        | ((with_reducible refine (c7.go _).mono ?_); rintro e w7 ⟨rfl, hb7⟩
           have K7 := KK.trans hb7))
      go_ret2
      exact ⟨ret_two (by first | rfl | (simp [n3])) (by first | rfl | (simp [n3])), by first | exact K7 | exact KK⟩
set_option maxHeartbeats 2000000 in
theorem right_13f (w fl a b P0 P1 X0 X1 M0 M1 N0 N1 T0 T1 y V : Int) (P2 X2 M2 T2 : Bool) (W : World) (hw1 : 1 ≤ w) (hw2 : w ≤ 64) (hy0 : 0 ≤ y) (hy : y < w) (hf : fl = 0 ∨ fl = 4)
    (c0 : ∀ W, Calls Try.prog 48 #[.int .i64 w, .int .u64 b] W fun e w' => e = .returned (.int .u64 y) ∧ W = w')
    (c1 : Makes 79 #[.int .i64 w, .int .u64 a] (.agg #[.int .u64 P0, .int .u64 P1, .bool P2]))
    (c2 : Makes 53 #[.int .i64 w, .int .u64 a] (.agg #[.int .u64 X0, .int .u64 X1, .bool X2]))
    (c6 : Makes 82 #[.int .u64 y] (.agg #[.int .u64 T0, .int .u64 T1, .bool T2]))
    (c5 : Makes 80 #[.agg #[.int .u64 X0, .int .u64 X1, .bool X2], .agg #[.int .u64 T0, .int .u64 T1, .bool T2]] (.tuple #[.agg #[.int .u64 M0, .int .u64 M1, .bool M2], .agg #[.int .u64 N0, .int .u64 N1, .bool false]]))
    (c7 : Makes 52 #[.int .i64 w, .agg #[.int .u64 M0, .int .u64 M1, .bool M2]] (.int .u64 V)) :
    Calls Try.prog 73 #[.int .i64 13, .int .i64 w, .int .i64 fl, .int .u64 a, .int .u64 b] W fun e w' =>
      e = .returned (.tuple #[.int .u64 (if decide (fl = 4) && N1 != 0 then 0 else V), .int .i64 (if decide (fl = 4) && N1 != 0 then 1 else 0)]) ∧ Kept W w' := by
  have hbu := build_lb
  go_enter Try.func73, Try.ntmps73
  go_upto_region 7 with (first
      | ((with_reducible refine (c0 _).mono ?_); rintro e w0 ⟨rfl, rfl⟩)
      | ((with_reducible refine (c1.go _).mono ?_); rintro e w1 ⟨rfl, hb1⟩)
      | ((with_reducible refine (c2.go _).mono ?_); rintro e w2 ⟨rfl, hb2⟩
         have B2 := (Blk.new _ _ _ _ _).kept hb2
         have K2 := (hb1.alloc _ _).trans hb2
         obtain ⟨a_s, a_0, a_1, a_2, a_f⟩ := id B2))
  have hz : W.heap.size ≤ w1.heap.size := hb1.1.size
  have B := B2.set (.int .u64 X0) (.int .u64 X1) (.bool X2)
  have K := K2.set3 (g := w1.heap.size) hz (.int .u64 X0) (.int .u64 X1) (.bool X2)
  unfold set3 at B K
  clear B2 K2 a_s a_0 a_1 a_2 a_f
  generalize hwq : ((w2.setCell ⟨w1.heap.size, 0, none⟩ (.int .u64 X0)).setCell ⟨w1.heap.size, 1, none⟩ (.int .u64 X1)).setCell ⟨w1.heap.size, 2, none⟩ (.bool X2) = wq at *
  clear hwq hb2
  obtain ⟨gx, hgx⟩ : ∃ gx, gx = w1.heap.size := ⟨_, rfl⟩
  rw [← hgx] at B hz ⊢
  clear hgx hb1
  obtain ⟨x_s, x_0, x_1, x_2, x_f⟩ := id B
  have dr : ∀ a, wq.drew.cell? a = wq.cell? a := fun _ => rfl
  go_cut [14, 15] (fun s14 s15 wx => ∃ g h : Nat, s14 = .pointer (some ⟨g, 0, none⟩) ∧ s15 = .pointer (some ⟨h, 0, none⟩) ∧ Blk wx g (.int .u64 M0) (.int .u64 M1) (.bool M2) ∧ Blk wx h (.int .u64 N0) (.int .u64 N1) (.bool false) ∧ W.heap.size ≤ g ∧ W.heap.size ≤ h ∧ Kept W wx)
  case first =>
    go_region_held3 (fun w' => w'.cell? ⟨gx, 0, none⟩ = some (.int .u64 X0) ∧ w'.cell? ⟨gx, 1, none⟩ = some (.int .u64 X1) ∧ w'.cell? ⟨gx, 2, none⟩ = some (.bool X2))
        (((try dsimp only); (repeat' apply And.intro) <;> ((repeat (first | rw [World.cell?_drew] | rw [World.cell?_alloc_past _ _ _ (by first | omega | (simp <;> omega))] | rw [World.cell?_setCell_far _ _ _ _ (by dsimp only; first | omega | (simp <;> omega))])); with_reducible assumption)))
        (first
          | ((with_reducible refine (c6.go _).mono ?_); rintro e w5 ⟨rfl, hb5⟩
             have L5 : Kept wq w5 := Kept.trans (by repeat (first | (with_reducible exact Kept.refl _) | (with_reducible apply Kept.drew) | (with_reducible apply Kept.alloc))) hb5
             have hz5 := L5.1.size
             have B5 := Blk.kept (g := gx) (A := .int .u64 X0) (B := .int .u64 X1) (C := .bool X2) (by repeat (first | (with_reducible exact B) | (with_reducible apply Blk.drew) | (with_reducible apply Blk.alloc))) hb5
             obtain ⟨u_s, u_0, u_1, u_2, u_f⟩ := id B5
             try (obtain ⟨z1_s, z1_0, z1_1, z1_2, z1_f⟩ : Blk w5 wq.heap.size (.int .u64 0) (.int .u64 0) (.bool false)
                  focus (refine Blk.kept ?_ hb5; (repeat (first | (with_reducible exact Blk.new _ _ _ _ _) | (with_reducible exact Blk.newd _ _ _ _ _) | (with_reducible apply Blk.drew) | (with_reducible apply Blk.alloc))); done)
                  have Z1 : Blk w5 wq.heap.size (.int .u64 0) (.int .u64 0) (.bool false) := ⟨z1_s, z1_0, z1_1, z1_2, z1_f⟩)
             try (obtain ⟨z2_s, z2_0, z2_1, z2_2, z2_f⟩ : Blk w5 (wq.heap.size + 1) (.int .u64 0) (.int .u64 0) (.bool false)
                  focus (refine Blk.kept ?_ hb5; (repeat (first | (with_reducible exact Blk.new2 _ _ _ _ _ _ _) | (with_reducible exact Blk.new2d _ _ _ _ _ _ _) | (with_reducible exact Blk.new2e _ _ _ _ _ _ _) | (with_reducible apply Blk.drew) | (with_reducible apply Blk.alloc))); done)
                  have Z2 : Blk w5 (wq.heap.size + 1) (.int .u64 0) (.int .u64 0) (.bool false) := ⟨z2_s, z2_0, z2_1, z2_2, z2_f⟩))
          | ((with_reducible refine (c5.go _).mono ?_); rintro e w6 ⟨rfl, hb6⟩
             have L6 : Kept w5 w6 := Kept.trans (by repeat (first | (with_reducible exact Kept.refl _) | (with_reducible apply Kept.drew) | (with_reducible apply Kept.alloc))) hb6
             have hz6 := L6.1.size
             have B6 := Blk.kept (g := gx) (A := .int .u64 X0) (B := .int .u64 X1) (C := .bool X2) (by repeat (first | (with_reducible exact B5) | (with_reducible apply Blk.drew) | (with_reducible apply Blk.alloc))) hb6
             obtain ⟨v_s, v_0, v_1, v_2, v_f⟩ := id B6
             try (obtain ⟨y1_s, y1_0, y1_1, y1_2, y1_f⟩ : Blk w6 wq.heap.size (.int .u64 0) (.int .u64 0) (.bool false)
                  focus (refine Blk.kept ?_ hb6; (repeat (first | (with_reducible exact Z1) | (with_reducible apply Blk.drew) | (with_reducible apply Blk.alloc))); done)
                  have Y1 : Blk w6 wq.heap.size (.int .u64 0) (.int .u64 0) (.bool false) := ⟨y1_s, y1_0, y1_1, y1_2, y1_f⟩)
             try (obtain ⟨y2_s, y2_0, y2_1, y2_2, y2_f⟩ : Blk w6 (wq.heap.size + 1) (.int .u64 0) (.int .u64 0) (.bool false)
                  focus (refine Blk.kept ?_ hb6; (repeat (first | (with_reducible exact Z2) | (with_reducible apply Blk.drew) | (with_reducible apply Blk.alloc))); done)
                  have Y2 : Blk w6 (wq.heap.size + 1) (.int .u64 0) (.int .u64 0) (.bool false) := ⟨y2_s, y2_0, y2_1, y2_2, y2_f⟩)
             try (obtain ⟨y3_s, y3_0, y3_1, y3_2, y3_f⟩ : Blk w6 w5.heap.size (.int .u64 0) (.int .u64 0) (.bool false)
                  focus (refine Blk.kept ?_ hb6; (repeat (first | (with_reducible exact Blk.new _ _ _ _ _) | (with_reducible exact Blk.newd _ _ _ _ _) | (with_reducible apply Blk.drew) | (with_reducible apply Blk.alloc))); done)
                  have Y3 : Blk w6 w5.heap.size (.int .u64 0) (.int .u64 0) (.bool false) := ⟨y3_s, y3_0, y3_1, y3_2, y3_f⟩)
             try (obtain ⟨y4_s, y4_0, y4_1, y4_2, y4_f⟩ : Blk w6 (w5.heap.size + 1) (.int .u64 0) (.int .u64 0) (.bool false)
                  focus (refine Blk.kept ?_ hb6; (repeat (first | (with_reducible exact Blk.new2 _ _ _ _ _ _ _) | (with_reducible exact Blk.new2d _ _ _ _ _ _ _) | (with_reducible exact Blk.new2e _ _ _ _ _ _ _) | (with_reducible apply Blk.drew) | (with_reducible apply Blk.alloc))); done)
                  have Y4 : Blk w6 (w5.heap.size + 1) (.int .u64 0) (.int .u64 0) (.bool false) := ⟨y4_s, y4_0, y4_1, y4_2, y4_f⟩)))
    all_goals (go_wp2_with fail; go_meet)
    all_goals
      refine ⟨_, _, rfl, rfl, ?_, ?_, ?_, ?_, ?_⟩
    all_goals clear x_0 x_1 x_2 x_f u_0 u_1 u_2 u_f v_0 v_1 v_2 v_f dr c0 c1 c5 c6 c7
    all_goals (first | ((with_reducible show _ ≤ _); omega) | skip)
    all_goals have KW5 := K.trans L5
    all_goals have KW6 := KW5.trans L6
    all_goals clear hb5 hb6 L5 L6 B
    all_goals (repeat (first
      | (with_reducible assumption)
      | (with_reducible apply Blk.new) | (with_reducible apply Blk.new2) | (with_reducible apply Blk.new3)
      | (with_reducible apply Blk.set') | (with_reducible apply Blk.far' _ _ _ (by omega)) | (with_reducible apply Blk.alloc)
      | (with_reducible apply Kept.alloc) | (with_reducible apply Kept.drew) | (with_reducible apply Kept.setCell (ha := (by dsimp only; omega)))))
  case rest =>
    obtain ⟨g, h, rfl, rfl, G, H, hg, hh, KK⟩ := hcut
    obtain ⟨wo, rfl⟩ : ∃ wo : World, wo = wc := ⟨_, rfl⟩
    obtain ⟨g_s, g_0, g_1, g_2, g_f⟩ := id G
    obtain ⟨h_s, h_0, h_1, h_2, h_f⟩ := id H
    clear B x_0 x_1 x_2 x_f dr K c0 c1 c5 c6
    have hn : N1 = 0 ∨ ((N1 == 0) = false ∧ (N1 != 0) = true ∧ ¬ N1 = 0) := by
      by_cases h : N1 = 0
      · exact .inl h
      · exact .inr ⟨by simpa using h, by simpa using h, h⟩
    rcases hf with rfl | rfl <;> rcases hn with rfl | ⟨n1, n2, n3⟩
    all_goals
      go_wp2_with (first
        | ((with_reducible refine (c7.go _).mono ?_); rintro e w7 ⟨rfl, hb7⟩
           have K7 := KK.trans hb7))
      go_ret2
      exact ⟨ret_two (by first | rfl | (simp [n3])) (by first | rfl | (simp [n3])), by first | exact K7 | exact KK⟩
set_option maxHeartbeats 2000000 in
theorem right_13t (w fl a b P0 P1 X0 X1 M0 M1 N0 N1 T0 T1 S0 S1 y V : Int) (P2 X2 M2 T2 S2 : Bool) (W : World) (hw1 : 1 ≤ w) (hw2 : w ≤ 64) (hy0 : 0 ≤ y) (hy : y < w) (hf : fl = 0 ∨ fl = 4)
    (c0 : ∀ W, Calls Try.prog 48 #[.int .i64 w, .int .u64 b] W fun e w' => e = .returned (.int .u64 y) ∧ W = w')
    (c1 : Makes 79 #[.int .i64 w, .int .u64 a] (.agg #[.int .u64 P0, .int .u64 P1, .bool P2]))
    (c2 : Makes 53 #[.int .i64 w, .int .u64 a] (.agg #[.int .u64 X0, .int .u64 X1, .bool X2]))
    (c6 : Makes 82 #[.int .u64 y] (.agg #[.int .u64 T0, .int .u64 T1, .bool T2]))
    (c5 : Makes 80 #[.agg #[.int .u64 X0, .int .u64 X1, .bool X2], .agg #[.int .u64 T0, .int .u64 T1, .bool T2]] (.tuple #[.agg #[.int .u64 M0, .int .u64 M1, .bool M2], .agg #[.int .u64 N0, .int .u64 N1, .bool true]]))
    (c8 : Makes 83 #[.agg #[.int .u64 M0, .int .u64 M1, .bool M2], .agg #[.int .u64 0, .int .u64 1, .bool true]] (.agg #[.int .u64 S0, .int .u64 S1, .bool S2]))
    (c7 : Makes 52 #[.int .i64 w, .agg #[.int .u64 S0, .int .u64 S1, .bool S2]] (.int .u64 V)) :
    Calls Try.prog 73 #[.int .i64 13, .int .i64 w, .int .i64 fl, .int .u64 a, .int .u64 b] W fun e w' =>
      e = .returned (.tuple #[.int .u64 (if decide (fl = 4) && N1 != 0 then 0 else V), .int .i64 (if decide (fl = 4) && N1 != 0 then 1 else 0)]) ∧ Kept W w' := by
  have hbu := build_lb
  go_enter Try.func73, Try.ntmps73
  go_upto_region 7 with (first
      | ((with_reducible refine (c0 _).mono ?_); rintro e w0 ⟨rfl, rfl⟩)
      | ((with_reducible refine (c1.go _).mono ?_); rintro e w1 ⟨rfl, hb1⟩)
      | ((with_reducible refine (c2.go _).mono ?_); rintro e w2 ⟨rfl, hb2⟩
         have B2 := (Blk.new _ _ _ _ _).kept hb2
         have K2 := (hb1.alloc _ _).trans hb2
         obtain ⟨a_s, a_0, a_1, a_2, a_f⟩ := id B2))
  have hz : W.heap.size ≤ w1.heap.size := hb1.1.size
  have B := B2.set (.int .u64 X0) (.int .u64 X1) (.bool X2)
  have K := K2.set3 (g := w1.heap.size) hz (.int .u64 X0) (.int .u64 X1) (.bool X2)
  unfold set3 at B K
  clear B2 K2 a_s a_0 a_1 a_2 a_f
  generalize hwq : ((w2.setCell ⟨w1.heap.size, 0, none⟩ (.int .u64 X0)).setCell ⟨w1.heap.size, 1, none⟩ (.int .u64 X1)).setCell ⟨w1.heap.size, 2, none⟩ (.bool X2) = wq at *
  clear hwq hb2
  obtain ⟨gx, hgx⟩ : ∃ gx, gx = w1.heap.size := ⟨_, rfl⟩
  rw [← hgx] at B hz ⊢
  clear hgx hb1
  obtain ⟨x_s, x_0, x_1, x_2, x_f⟩ := id B
  have dr : ∀ a, wq.drew.cell? a = wq.cell? a := fun _ => rfl
  go_cut [14, 15] (fun s14 s15 wx => ∃ g h : Nat, s14 = .pointer (some ⟨g, 0, none⟩) ∧ s15 = .pointer (some ⟨h, 0, none⟩) ∧ Blk wx g (.int .u64 M0) (.int .u64 M1) (.bool M2) ∧ Blk wx h (.int .u64 N0) (.int .u64 N1) (.bool true) ∧ W.heap.size ≤ g ∧ W.heap.size ≤ h ∧ Kept W wx)
  case first =>
    go_region_held3 (fun w' => w'.cell? ⟨gx, 0, none⟩ = some (.int .u64 X0) ∧ w'.cell? ⟨gx, 1, none⟩ = some (.int .u64 X1) ∧ w'.cell? ⟨gx, 2, none⟩ = some (.bool X2))
        (((try dsimp only); (repeat' apply And.intro) <;> ((repeat (first | rw [World.cell?_drew] | rw [World.cell?_alloc_past _ _ _ (by first | omega | (simp <;> omega))] | rw [World.cell?_setCell_far _ _ _ _ (by dsimp only; first | omega | (simp <;> omega))])); with_reducible assumption)))
        (first
          | ((with_reducible refine (c6.go _).mono ?_); rintro e w5 ⟨rfl, hb5⟩
             have L5 : Kept wq w5 := Kept.trans (by repeat (first | (with_reducible exact Kept.refl _) | (with_reducible apply Kept.drew) | (with_reducible apply Kept.alloc))) hb5
             have hz5 := L5.1.size
             have B5 := Blk.kept (g := gx) (A := .int .u64 X0) (B := .int .u64 X1) (C := .bool X2) (by repeat (first | (with_reducible exact B) | (with_reducible apply Blk.drew) | (with_reducible apply Blk.alloc))) hb5
             obtain ⟨u_s, u_0, u_1, u_2, u_f⟩ := id B5
             try (obtain ⟨z1_s, z1_0, z1_1, z1_2, z1_f⟩ : Blk w5 wq.heap.size (.int .u64 0) (.int .u64 0) (.bool false)
                  focus (refine Blk.kept ?_ hb5; (repeat (first | (with_reducible exact Blk.new _ _ _ _ _) | (with_reducible exact Blk.newd _ _ _ _ _) | (with_reducible apply Blk.drew) | (with_reducible apply Blk.alloc))); done)
                  have Z1 : Blk w5 wq.heap.size (.int .u64 0) (.int .u64 0) (.bool false) := ⟨z1_s, z1_0, z1_1, z1_2, z1_f⟩)
             try (obtain ⟨z2_s, z2_0, z2_1, z2_2, z2_f⟩ : Blk w5 (wq.heap.size + 1) (.int .u64 0) (.int .u64 0) (.bool false)
                  focus (refine Blk.kept ?_ hb5; (repeat (first | (with_reducible exact Blk.new2 _ _ _ _ _ _ _) | (with_reducible exact Blk.new2d _ _ _ _ _ _ _) | (with_reducible exact Blk.new2e _ _ _ _ _ _ _) | (with_reducible apply Blk.drew) | (with_reducible apply Blk.alloc))); done)
                  have Z2 : Blk w5 (wq.heap.size + 1) (.int .u64 0) (.int .u64 0) (.bool false) := ⟨z2_s, z2_0, z2_1, z2_2, z2_f⟩))
          | ((with_reducible refine (c5.go _).mono ?_); rintro e w6 ⟨rfl, hb6⟩
             have L6 : Kept w5 w6 := Kept.trans (by repeat (first | (with_reducible exact Kept.refl _) | (with_reducible apply Kept.drew) | (with_reducible apply Kept.alloc))) hb6
             have hz6 := L6.1.size
             have B6 := Blk.kept (g := gx) (A := .int .u64 X0) (B := .int .u64 X1) (C := .bool X2) (by repeat (first | (with_reducible exact B5) | (with_reducible apply Blk.drew) | (with_reducible apply Blk.alloc))) hb6
             obtain ⟨v_s, v_0, v_1, v_2, v_f⟩ := id B6
             try (obtain ⟨y1_s, y1_0, y1_1, y1_2, y1_f⟩ : Blk w6 wq.heap.size (.int .u64 0) (.int .u64 0) (.bool false)
                  focus (refine Blk.kept ?_ hb6; (repeat (first | (with_reducible exact Z1) | (with_reducible apply Blk.drew) | (with_reducible apply Blk.alloc))); done)
                  have Y1 : Blk w6 wq.heap.size (.int .u64 0) (.int .u64 0) (.bool false) := ⟨y1_s, y1_0, y1_1, y1_2, y1_f⟩)
             try (obtain ⟨y2_s, y2_0, y2_1, y2_2, y2_f⟩ : Blk w6 (wq.heap.size + 1) (.int .u64 0) (.int .u64 0) (.bool false)
                  focus (refine Blk.kept ?_ hb6; (repeat (first | (with_reducible exact Z2) | (with_reducible apply Blk.drew) | (with_reducible apply Blk.alloc))); done)
                  have Y2 : Blk w6 (wq.heap.size + 1) (.int .u64 0) (.int .u64 0) (.bool false) := ⟨y2_s, y2_0, y2_1, y2_2, y2_f⟩)
             try (obtain ⟨y3_s, y3_0, y3_1, y3_2, y3_f⟩ : Blk w6 w5.heap.size (.int .u64 0) (.int .u64 0) (.bool false)
                  focus (refine Blk.kept ?_ hb6; (repeat (first | (with_reducible exact Blk.new _ _ _ _ _) | (with_reducible exact Blk.newd _ _ _ _ _) | (with_reducible apply Blk.drew) | (with_reducible apply Blk.alloc))); done)
                  have Y3 : Blk w6 w5.heap.size (.int .u64 0) (.int .u64 0) (.bool false) := ⟨y3_s, y3_0, y3_1, y3_2, y3_f⟩)
             try (obtain ⟨y4_s, y4_0, y4_1, y4_2, y4_f⟩ : Blk w6 (w5.heap.size + 1) (.int .u64 0) (.int .u64 0) (.bool false)
                  focus (refine Blk.kept ?_ hb6; (repeat (first | (with_reducible exact Blk.new2 _ _ _ _ _ _ _) | (with_reducible exact Blk.new2d _ _ _ _ _ _ _) | (with_reducible exact Blk.new2e _ _ _ _ _ _ _) | (with_reducible apply Blk.drew) | (with_reducible apply Blk.alloc))); done)
                  have Y4 : Blk w6 (w5.heap.size + 1) (.int .u64 0) (.int .u64 0) (.bool false) := ⟨y4_s, y4_0, y4_1, y4_2, y4_f⟩)))
    all_goals (go_wp2_with fail; go_meet)
    all_goals
      refine ⟨_, _, rfl, rfl, ?_, ?_, ?_, ?_, ?_⟩
    all_goals clear x_0 x_1 x_2 x_f u_0 u_1 u_2 u_f v_0 v_1 v_2 v_f dr c0 c1 c5 c6 c7
    all_goals (first | ((with_reducible show _ ≤ _); omega) | skip)
    all_goals have KW5 := K.trans L5
    all_goals have KW6 := KW5.trans L6
    all_goals clear hb5 hb6 L5 L6 B
    all_goals (repeat (first
      | (with_reducible assumption)
      | (with_reducible apply Blk.new) | (with_reducible apply Blk.new2) | (with_reducible apply Blk.new3)
      | (with_reducible apply Blk.set') | (with_reducible apply Blk.far' _ _ _ (by omega)) | (with_reducible apply Blk.alloc)
      | (with_reducible apply Kept.alloc) | (with_reducible apply Kept.drew) | (with_reducible apply Kept.setCell (ha := (by dsimp only; omega)))))
  case rest =>
    obtain ⟨g, h, rfl, rfl, G, H, hg, hh, KK⟩ := hcut
    obtain ⟨wo, rfl⟩ : ∃ wo : World, wo = wc := ⟨_, rfl⟩
    obtain ⟨g_s, g_0, g_1, g_2, g_f⟩ := id G
    obtain ⟨h_s, h_0, h_1, h_2, h_f⟩ := id H
    clear B x_0 x_1 x_2 x_f dr K c0 c1 c5 c6
    have hn : N1 = 0 ∨ ((N1 == 0) = false ∧ (N1 != 0) = true ∧ ¬ N1 = 0) := by
      by_cases h : N1 = 0
      · exact .inl h
      · exact .inr ⟨by simpa using h, by simpa using h, h⟩
    rcases hf with rfl | rfl <;> rcases hn with rfl | ⟨n1, n2, n3⟩
    all_goals
      go_wp2_with (first
        | ((with_reducible refine (c8.go _).mono ?_); rintro e w8 ⟨rfl, hb8⟩
           have G8 := G.kept hb8
           have K8 := KK.trans hb8
           obtain ⟨p_s, p_0, p_1, p_2, p_f⟩ := id G8
           have G9 := G8.set (.int .u64 S0) (.int .u64 S1) (.bool S2)
           obtain ⟨q_s, q_0, q_1, q_2, q_f⟩ := id G9
           unfold set3 at q_s q_0 q_1 q_2 q_f)
        | ((with_reducible refine (c7.go _).mono ?_); rintro e w7 ⟨rfl, hb7⟩
           have K7 := (K8.set3 (g := g) hg _ _ _).trans hb7))
      go_ret2
      exact ⟨ret_two (by first | rfl | (simp [n3])) (by first | rfl | (simp [n3])), by first | exact K7 | exact KK⟩
theorem right_over (op w fl a b y : Int) (W : World) (hw1 : 1 ≤ w) (hw2 : w ≤ 64) (hy0 : 0 ≤ y) (hy : w ≤ y) (c0 : ∀ W, Calls Try.prog 48 #[.int .i64 w, .int .u64 b] W fun e w' => e = .returned (.int .u64 y) ∧ W = w') :
    Calls Try.prog 73 #[.int .i64 op, .int .i64 w, .int .i64 fl, .int .u64 a, .int .u64 b] W fun e w' => e = .returned (.tuple #[.int .u64 0, .int .i64 1]) ∧ Kept W w' := by
  go_enter Try.func73, Try.ntmps73
  go_wp2_with ((with_reducible refine (c0 _).mono ?_); rintro e w0 ⟨rfl, rfl⟩)
  go_ret2
  exact ⟨ret_two rfl rfl, Kept.refl _⟩
theorem build_zero (w : World) : (Instr.build 68 #[]).run Try.prog w = .ok (.agg #[.int .u64 0, .int .u64 0, .bool false]) w := run_build _ _ _ _ (by kernel_rfl)
/-- Is it 0? -/
def zB (a b : Int) (c : Bool) : Bool := a == 0 && (b == 0 && c == false)
set_option maxHeartbeats 4000000 in
theorem compared_14 (w a b P0 P1 Q0 Q1 N0 N1 D0 D1 : Int) (P2 Q2 N2 D2 : Bool) (W : World)
    (c1 : Makes 79 #[.int .i64 w, .int .u64 a] (.agg #[.int .u64 P0, .int .u64 P1, .bool P2]))
    (c2 : Makes 79 #[.int .i64 w, .int .u64 b] (.agg #[.int .u64 Q0, .int .u64 Q1, .bool Q2]))
    (c6 : Makes 84 #[.agg #[.int .u64 Q0, .int .u64 Q1, .bool Q2]] (.agg #[.int .u64 N0, .int .u64 N1, .bool N2]))
    (c5 : Makes 83 #[.agg #[.int .u64 P0, .int .u64 P1, .bool P2], .agg #[.int .u64 N0, .int .u64 N1, .bool N2]] (.agg #[.int .u64 D0, .int .u64 D1, .bool D2])) :
    Calls Try.prog 74 #[.int .i64 14, .int .i64 w, .int .u64 a, .int .u64 b] W fun e w' => e = .returned (.bool (zB D0 D1 D2)) ∧ Kept W w' := by
  have hbu := build_zero
  go_enter Try.func74, Try.ntmps74
  go_upto_region 6 with (first
      | ((with_reducible refine (c1.go _).mono ?_); rintro e w1 ⟨rfl, hb1⟩)
      | ((with_reducible refine (c2.go _).mono ?_); rintro e w2 ⟨rfl, hb2⟩
         have B2 := (Blk.new _ _ _ _ _).kept hb2
         have K2 := (hb1.alloc _ _).trans hb2
         have hz2 := ksz hb2
         have hz1 := hb1.1.size
         obtain ⟨a_s, a_0, a_1, a_2, a_f⟩ := id B2))
  have B := B2.alloc #[.int .u64 Q0, .int .u64 Q1, .bool Q2] 68
  have C := Blk.new w2 (.int .u64 Q0) (.int .u64 Q1) (.bool Q2) 68
  have K := K2.alloc #[.int .u64 Q0, .int .u64 Q1, .bool Q2] 68
  clear B2 K2 a_s a_0 a_1 a_2 a_f
  obtain ⟨gx, hgx⟩ : ∃ gx, gx = w1.heap.size := ⟨_, rfl⟩
  obtain ⟨gy, hgy⟩ : ∃ gy, gy = w2.heap.size := ⟨_, rfl⟩
  rw [← hgx] at B hz1 hz2 ⊢
  rw [← hgy] at C hz2 ⊢
  generalize hwq : w2.alloc (.cells #[.int .u64 Q0, .int .u64 Q1, .bool Q2] 68) = wq at *
  clear hwq hgx hgy hb1 hb2 
  obtain ⟨x_s, x_0, x_1, x_2, x_f⟩ := id B
  obtain ⟨y_s, y_0, y_1, y_2, y_f⟩ := id C
  go_cut [11] (fun s11 wx => ∃ g : Nat, s11 = .pointer (some ⟨g, 0, none⟩) ∧ Blk wx g (.int .u64 D0) (.int .u64 D1) (.bool D2) ∧ Kept W wx)
  case first =>
    go_region_held3 (fun w' => w'.cell? ⟨gx, 0, none⟩ = some (.int .u64 P0) ∧ w'.cell? ⟨gx, 1, none⟩ = some (.int .u64 P1) ∧ w'.cell? ⟨gx, 2, none⟩ = some (.bool P2) ∧ w'.cell? ⟨gy, 0, none⟩ = some (.int .u64 Q0) ∧ w'.cell? ⟨gy, 1, none⟩ = some (.int .u64 Q1) ∧ w'.cell? ⟨gy, 2, none⟩ = some (.bool Q2))
        (((try dsimp only); (repeat' apply And.intro) <;> ((repeat (first | rw [World.cell?_drew] | rw [World.cell?_alloc_past _ _ _ (by first | omega | (simp <;> omega))] | rw [World.cell?_setCell_far _ _ _ _ (by dsimp only; first | omega | (simp <;> omega))])); with_reducible assumption)))
        (first
          | ((with_reducible refine (c6.go _).mono ?_); rintro e w5 ⟨rfl, hb5⟩
             have L5 : Kept wq w5 := Kept.trans (by repeat (first | (with_reducible exact Kept.refl _) | (with_reducible apply Kept.drew) | (with_reducible apply Kept.alloc))) hb5
             have hz5 := L5.1.size
             have B5 := B.kept L5
             have C5 := C.kept L5
             obtain ⟨u_s, u_0, u_1, u_2, u_f⟩ := id B5
             obtain ⟨t_s, t_0, t_1, t_2, t_f⟩ := id C5
             try (obtain ⟨z1_s, z1_0, z1_1, z1_2, z1_f⟩ : Blk w5 wq.heap.size (.int .u64 0) (.int .u64 0) (.bool false)
                  focus (refine Blk.kept ?_ hb5; (repeat (first | (with_reducible apply Blk.new) | (with_reducible apply Blk.newd) | (with_reducible apply Blk.drew) | (with_reducible apply Blk.alloc))); done)
                  have Z1 : Blk w5 wq.heap.size (.int .u64 0) (.int .u64 0) (.bool false) := ⟨z1_s, z1_0, z1_1, z1_2, z1_f⟩))
          | ((with_reducible refine (c5.go _).mono ?_); rintro e w6 ⟨rfl, hb6⟩
             have L6 : Kept w5 w6 := Kept.trans (by repeat (first | (with_reducible exact Kept.refl _) | (with_reducible apply Kept.drew) | (with_reducible apply Kept.alloc))) hb6
             have hz6 := L6.1.size
             have B6 := B5.kept L6
             have C6 := C5.kept L6
             obtain ⟨v_s, v_0, v_1, v_2, v_f⟩ := id B6
             obtain ⟨r_s, r_0, r_1, r_2, r_f⟩ := id C6
             try (obtain ⟨y1_s, y1_0, y1_1, y1_2, y1_f⟩ : Blk w6 wq.heap.size (.int .u64 0) (.int .u64 0) (.bool false)
                  focus (refine Blk.kept ?_ hb6; (repeat (first | (with_reducible exact Z1) | (with_reducible apply Blk.drew) | (with_reducible apply Blk.alloc))); done)
                  have Y1 : Blk w6 wq.heap.size (.int .u64 0) (.int .u64 0) (.bool false) := ⟨y1_s, y1_0, y1_1, y1_2, y1_f⟩)
             try (obtain ⟨y3_s, y3_0, y3_1, y3_2, y3_f⟩ : Blk w6 w5.heap.size (.int .u64 0) (.int .u64 0) (.bool false)
                  focus (refine Blk.kept ?_ hb6; (repeat (first | (with_reducible apply Blk.new) | (with_reducible apply Blk.newd) | (with_reducible apply Blk.drew) | (with_reducible apply Blk.alloc))); done)
                  have Y3 : Blk w6 w5.heap.size (.int .u64 0) (.int .u64 0) (.bool false) := ⟨y3_s, y3_0, y3_1, y3_2, y3_f⟩)))
    all_goals (go_wp2_with fail; go_meet)
    all_goals
      refine ⟨_, rfl, ?_, ?_⟩
    all_goals have KW5 := K.trans L5
    all_goals have KW6 := KW5.trans L6
    all_goals have hzW := K.1.size
    all_goals clear hb5 hb6 L5 L6 B C x_0 x_1 x_2 x_f y_0 y_1 y_2 y_f u_0 u_1 u_2 u_f t_0 t_1 t_2 t_f v_0 v_1 v_2 v_f r_0 r_1 r_2 r_f c1 c2 c5 c6
    all_goals (repeat (first
      | (with_reducible assumption)
      | (with_reducible apply Blk.new) | (with_reducible apply Blk.new2) | (with_reducible apply Blk.new3)
      | (with_reducible apply Blk.set') | (with_reducible apply Blk.far' _ _ _ (by omega)) | (with_reducible apply Blk.alloc)
      | (with_reducible apply Kept.alloc) | (with_reducible apply Kept.drew) | (with_reducible apply Kept.setCell (ha := (by dsimp only; omega)))))
  case rest =>
    obtain ⟨g, rfl, G, KK⟩ := hcut
    obtain ⟨wo, rfl⟩ : ∃ wo : World, wo = wc := ⟨_, rfl⟩
    obtain ⟨g_s, g_0, g_1, g_2, g_f⟩ := id G
    clear B C x_0 x_1 x_2 x_f y_0 y_1 y_2 y_f K c1 c2 c5 c6
    cases D2
    all_goals go_wp2
    all_goals go_ret
    all_goals exact ⟨ret_bool (by first | (simp [zB]; done) | (simp [zB, *]; done) | (simp_all [zB]; done)), KK⟩
set_option maxHeartbeats 4000000 in
theorem compared_15 (w a b P0 P1 Q0 Q1 N0 N1 D0 D1 : Int) (P2 Q2 N2 D2 : Bool) (W : World)
    (c1 : Makes 79 #[.int .i64 w, .int .u64 a] (.agg #[.int .u64 P0, .int .u64 P1, .bool P2]))
    (c2 : Makes 79 #[.int .i64 w, .int .u64 b] (.agg #[.int .u64 Q0, .int .u64 Q1, .bool Q2]))
    (c6 : Makes 84 #[.agg #[.int .u64 Q0, .int .u64 Q1, .bool Q2]] (.agg #[.int .u64 N0, .int .u64 N1, .bool N2]))
    (c5 : Makes 83 #[.agg #[.int .u64 P0, .int .u64 P1, .bool P2], .agg #[.int .u64 N0, .int .u64 N1, .bool N2]] (.agg #[.int .u64 D0, .int .u64 D1, .bool D2])) :
    Calls Try.prog 74 #[.int .i64 15, .int .i64 w, .int .u64 a, .int .u64 b] W fun e w' => e = .returned (.bool (!zB D0 D1 D2)) ∧ Kept W w' := by
  have hbu := build_zero
  go_enter Try.func74, Try.ntmps74
  go_upto_region 6 with (first
      | ((with_reducible refine (c1.go _).mono ?_); rintro e w1 ⟨rfl, hb1⟩)
      | ((with_reducible refine (c2.go _).mono ?_); rintro e w2 ⟨rfl, hb2⟩
         have B2 := (Blk.new _ _ _ _ _).kept hb2
         have K2 := (hb1.alloc _ _).trans hb2
         have hz2 := ksz hb2
         have hz1 := hb1.1.size
         obtain ⟨a_s, a_0, a_1, a_2, a_f⟩ := id B2))
  have B := B2.alloc #[.int .u64 Q0, .int .u64 Q1, .bool Q2] 68
  have C := Blk.new w2 (.int .u64 Q0) (.int .u64 Q1) (.bool Q2) 68
  have K := K2.alloc #[.int .u64 Q0, .int .u64 Q1, .bool Q2] 68
  clear B2 K2 a_s a_0 a_1 a_2 a_f
  obtain ⟨gx, hgx⟩ : ∃ gx, gx = w1.heap.size := ⟨_, rfl⟩
  obtain ⟨gy, hgy⟩ : ∃ gy, gy = w2.heap.size := ⟨_, rfl⟩
  rw [← hgx] at B hz1 hz2 ⊢
  rw [← hgy] at C hz2 ⊢
  generalize hwq : w2.alloc (.cells #[.int .u64 Q0, .int .u64 Q1, .bool Q2] 68) = wq at *
  clear hwq hgx hgy hb1 hb2 
  obtain ⟨x_s, x_0, x_1, x_2, x_f⟩ := id B
  obtain ⟨y_s, y_0, y_1, y_2, y_f⟩ := id C
  go_cut [11] (fun s11 wx => ∃ g : Nat, s11 = .pointer (some ⟨g, 0, none⟩) ∧ Blk wx g (.int .u64 D0) (.int .u64 D1) (.bool D2) ∧ Kept W wx)
  case first =>
    go_region_held3 (fun w' => w'.cell? ⟨gx, 0, none⟩ = some (.int .u64 P0) ∧ w'.cell? ⟨gx, 1, none⟩ = some (.int .u64 P1) ∧ w'.cell? ⟨gx, 2, none⟩ = some (.bool P2) ∧ w'.cell? ⟨gy, 0, none⟩ = some (.int .u64 Q0) ∧ w'.cell? ⟨gy, 1, none⟩ = some (.int .u64 Q1) ∧ w'.cell? ⟨gy, 2, none⟩ = some (.bool Q2))
        (((try dsimp only); (repeat' apply And.intro) <;> ((repeat (first | rw [World.cell?_drew] | rw [World.cell?_alloc_past _ _ _ (by first | omega | (simp <;> omega))] | rw [World.cell?_setCell_far _ _ _ _ (by dsimp only; first | omega | (simp <;> omega))])); with_reducible assumption)))
        (first
          | ((with_reducible refine (c6.go _).mono ?_); rintro e w5 ⟨rfl, hb5⟩
             have L5 : Kept wq w5 := Kept.trans (by repeat (first | (with_reducible exact Kept.refl _) | (with_reducible apply Kept.drew) | (with_reducible apply Kept.alloc))) hb5
             have hz5 := L5.1.size
             have B5 := B.kept L5
             have C5 := C.kept L5
             obtain ⟨u_s, u_0, u_1, u_2, u_f⟩ := id B5
             obtain ⟨t_s, t_0, t_1, t_2, t_f⟩ := id C5
             try (obtain ⟨z1_s, z1_0, z1_1, z1_2, z1_f⟩ : Blk w5 wq.heap.size (.int .u64 0) (.int .u64 0) (.bool false)
                  focus (refine Blk.kept ?_ hb5; (repeat (first | (with_reducible apply Blk.new) | (with_reducible apply Blk.newd) | (with_reducible apply Blk.drew) | (with_reducible apply Blk.alloc))); done)
                  have Z1 : Blk w5 wq.heap.size (.int .u64 0) (.int .u64 0) (.bool false) := ⟨z1_s, z1_0, z1_1, z1_2, z1_f⟩))
          | ((with_reducible refine (c5.go _).mono ?_); rintro e w6 ⟨rfl, hb6⟩
             have L6 : Kept w5 w6 := Kept.trans (by repeat (first | (with_reducible exact Kept.refl _) | (with_reducible apply Kept.drew) | (with_reducible apply Kept.alloc))) hb6
             have hz6 := L6.1.size
             have B6 := B5.kept L6
             have C6 := C5.kept L6
             obtain ⟨v_s, v_0, v_1, v_2, v_f⟩ := id B6
             obtain ⟨r_s, r_0, r_1, r_2, r_f⟩ := id C6
             try (obtain ⟨y1_s, y1_0, y1_1, y1_2, y1_f⟩ : Blk w6 wq.heap.size (.int .u64 0) (.int .u64 0) (.bool false)
                  focus (refine Blk.kept ?_ hb6; (repeat (first | (with_reducible exact Z1) | (with_reducible apply Blk.drew) | (with_reducible apply Blk.alloc))); done)
                  have Y1 : Blk w6 wq.heap.size (.int .u64 0) (.int .u64 0) (.bool false) := ⟨y1_s, y1_0, y1_1, y1_2, y1_f⟩)
             try (obtain ⟨y3_s, y3_0, y3_1, y3_2, y3_f⟩ : Blk w6 w5.heap.size (.int .u64 0) (.int .u64 0) (.bool false)
                  focus (refine Blk.kept ?_ hb6; (repeat (first | (with_reducible apply Blk.new) | (with_reducible apply Blk.newd) | (with_reducible apply Blk.drew) | (with_reducible apply Blk.alloc))); done)
                  have Y3 : Blk w6 w5.heap.size (.int .u64 0) (.int .u64 0) (.bool false) := ⟨y3_s, y3_0, y3_1, y3_2, y3_f⟩)))
    all_goals (go_wp2_with fail; go_meet)
    all_goals
      refine ⟨_, rfl, ?_, ?_⟩
    all_goals have KW5 := K.trans L5
    all_goals have KW6 := KW5.trans L6
    all_goals have hzW := K.1.size
    all_goals clear hb5 hb6 L5 L6 B C x_0 x_1 x_2 x_f y_0 y_1 y_2 y_f u_0 u_1 u_2 u_f t_0 t_1 t_2 t_f v_0 v_1 v_2 v_f r_0 r_1 r_2 r_f c1 c2 c5 c6
    all_goals (repeat (first
      | (with_reducible assumption)
      | (with_reducible apply Blk.new) | (with_reducible apply Blk.new2) | (with_reducible apply Blk.new3)
      | (with_reducible apply Blk.set') | (with_reducible apply Blk.far' _ _ _ (by omega)) | (with_reducible apply Blk.alloc)
      | (with_reducible apply Kept.alloc) | (with_reducible apply Kept.drew) | (with_reducible apply Kept.setCell (ha := (by dsimp only; omega)))))
  case rest =>
    obtain ⟨g, rfl, G, KK⟩ := hcut
    obtain ⟨wo, rfl⟩ : ∃ wo : World, wo = wc := ⟨_, rfl⟩
    obtain ⟨g_s, g_0, g_1, g_2, g_f⟩ := id G
    clear B C x_0 x_1 x_2 x_f y_0 y_1 y_2 y_f K c1 c2 c5 c6
    cases D2
    all_goals go_wp2
    all_goals go_ret
    all_goals exact ⟨ret_bool (by first | (simp [zB]; done) | (simp [zB, *]; done) | (simp_all [zB]; done)), KK⟩
set_option maxHeartbeats 4000000 in
theorem compared_16 (w a b P0 P1 Q0 Q1 N0 N1 D0 D1 : Int) (P2 Q2 N2 D2 : Bool) (W : World)
    (c1 : Makes 79 #[.int .i64 w, .int .u64 a] (.agg #[.int .u64 P0, .int .u64 P1, .bool P2]))
    (c2 : Makes 79 #[.int .i64 w, .int .u64 b] (.agg #[.int .u64 Q0, .int .u64 Q1, .bool Q2]))
    (c6 : Makes 84 #[.agg #[.int .u64 Q0, .int .u64 Q1, .bool Q2]] (.agg #[.int .u64 N0, .int .u64 N1, .bool N2]))
    (c5 : Makes 83 #[.agg #[.int .u64 P0, .int .u64 P1, .bool P2], .agg #[.int .u64 N0, .int .u64 N1, .bool N2]] (.agg #[.int .u64 D0, .int .u64 D1, .bool D2])) :
    Calls Try.prog 74 #[.int .i64 16, .int .i64 w, .int .u64 a, .int .u64 b] W fun e w' => e = .returned (.bool (D2)) ∧ Kept W w' := by
  have hbu := build_zero
  go_enter Try.func74, Try.ntmps74
  go_upto_region 6 with (first
      | ((with_reducible refine (c1.go _).mono ?_); rintro e w1 ⟨rfl, hb1⟩)
      | ((with_reducible refine (c2.go _).mono ?_); rintro e w2 ⟨rfl, hb2⟩
         have B2 := (Blk.new _ _ _ _ _).kept hb2
         have K2 := (hb1.alloc _ _).trans hb2
         have hz2 := ksz hb2
         have hz1 := hb1.1.size
         obtain ⟨a_s, a_0, a_1, a_2, a_f⟩ := id B2))
  have B := B2.alloc #[.int .u64 Q0, .int .u64 Q1, .bool Q2] 68
  have C := Blk.new w2 (.int .u64 Q0) (.int .u64 Q1) (.bool Q2) 68
  have K := K2.alloc #[.int .u64 Q0, .int .u64 Q1, .bool Q2] 68
  clear B2 K2 a_s a_0 a_1 a_2 a_f
  obtain ⟨gx, hgx⟩ : ∃ gx, gx = w1.heap.size := ⟨_, rfl⟩
  obtain ⟨gy, hgy⟩ : ∃ gy, gy = w2.heap.size := ⟨_, rfl⟩
  rw [← hgx] at B hz1 hz2 ⊢
  rw [← hgy] at C hz2 ⊢
  generalize hwq : w2.alloc (.cells #[.int .u64 Q0, .int .u64 Q1, .bool Q2] 68) = wq at *
  clear hwq hgx hgy hb1 hb2 
  obtain ⟨x_s, x_0, x_1, x_2, x_f⟩ := id B
  obtain ⟨y_s, y_0, y_1, y_2, y_f⟩ := id C
  go_cut [11] (fun s11 wx => ∃ g : Nat, s11 = .pointer (some ⟨g, 0, none⟩) ∧ Blk wx g (.int .u64 D0) (.int .u64 D1) (.bool D2) ∧ Kept W wx)
  case first =>
    go_region_held3 (fun w' => w'.cell? ⟨gx, 0, none⟩ = some (.int .u64 P0) ∧ w'.cell? ⟨gx, 1, none⟩ = some (.int .u64 P1) ∧ w'.cell? ⟨gx, 2, none⟩ = some (.bool P2) ∧ w'.cell? ⟨gy, 0, none⟩ = some (.int .u64 Q0) ∧ w'.cell? ⟨gy, 1, none⟩ = some (.int .u64 Q1) ∧ w'.cell? ⟨gy, 2, none⟩ = some (.bool Q2))
        (((try dsimp only); (repeat' apply And.intro) <;> ((repeat (first | rw [World.cell?_drew] | rw [World.cell?_alloc_past _ _ _ (by first | omega | (simp <;> omega))] | rw [World.cell?_setCell_far _ _ _ _ (by dsimp only; first | omega | (simp <;> omega))])); with_reducible assumption)))
        (first
          | ((with_reducible refine (c6.go _).mono ?_); rintro e w5 ⟨rfl, hb5⟩
             have L5 : Kept wq w5 := Kept.trans (by repeat (first | (with_reducible exact Kept.refl _) | (with_reducible apply Kept.drew) | (with_reducible apply Kept.alloc))) hb5
             have hz5 := L5.1.size
             have B5 := B.kept L5
             have C5 := C.kept L5
             obtain ⟨u_s, u_0, u_1, u_2, u_f⟩ := id B5
             obtain ⟨t_s, t_0, t_1, t_2, t_f⟩ := id C5
             try (obtain ⟨z1_s, z1_0, z1_1, z1_2, z1_f⟩ : Blk w5 wq.heap.size (.int .u64 0) (.int .u64 0) (.bool false)
                  focus (refine Blk.kept ?_ hb5; (repeat (first | (with_reducible apply Blk.new) | (with_reducible apply Blk.newd) | (with_reducible apply Blk.drew) | (with_reducible apply Blk.alloc))); done)
                  have Z1 : Blk w5 wq.heap.size (.int .u64 0) (.int .u64 0) (.bool false) := ⟨z1_s, z1_0, z1_1, z1_2, z1_f⟩))
          | ((with_reducible refine (c5.go _).mono ?_); rintro e w6 ⟨rfl, hb6⟩
             have L6 : Kept w5 w6 := Kept.trans (by repeat (first | (with_reducible exact Kept.refl _) | (with_reducible apply Kept.drew) | (with_reducible apply Kept.alloc))) hb6
             have hz6 := L6.1.size
             have B6 := B5.kept L6
             have C6 := C5.kept L6
             obtain ⟨v_s, v_0, v_1, v_2, v_f⟩ := id B6
             obtain ⟨r_s, r_0, r_1, r_2, r_f⟩ := id C6
             try (obtain ⟨y1_s, y1_0, y1_1, y1_2, y1_f⟩ : Blk w6 wq.heap.size (.int .u64 0) (.int .u64 0) (.bool false)
                  focus (refine Blk.kept ?_ hb6; (repeat (first | (with_reducible exact Z1) | (with_reducible apply Blk.drew) | (with_reducible apply Blk.alloc))); done)
                  have Y1 : Blk w6 wq.heap.size (.int .u64 0) (.int .u64 0) (.bool false) := ⟨y1_s, y1_0, y1_1, y1_2, y1_f⟩)
             try (obtain ⟨y3_s, y3_0, y3_1, y3_2, y3_f⟩ : Blk w6 w5.heap.size (.int .u64 0) (.int .u64 0) (.bool false)
                  focus (refine Blk.kept ?_ hb6; (repeat (first | (with_reducible apply Blk.new) | (with_reducible apply Blk.newd) | (with_reducible apply Blk.drew) | (with_reducible apply Blk.alloc))); done)
                  have Y3 : Blk w6 w5.heap.size (.int .u64 0) (.int .u64 0) (.bool false) := ⟨y3_s, y3_0, y3_1, y3_2, y3_f⟩)))
    all_goals (go_wp2_with fail; go_meet)
    all_goals
      refine ⟨_, rfl, ?_, ?_⟩
    all_goals have KW5 := K.trans L5
    all_goals have KW6 := KW5.trans L6
    all_goals have hzW := K.1.size
    all_goals clear hb5 hb6 L5 L6 B C x_0 x_1 x_2 x_f y_0 y_1 y_2 y_f u_0 u_1 u_2 u_f t_0 t_1 t_2 t_f v_0 v_1 v_2 v_f r_0 r_1 r_2 r_f c1 c2 c5 c6
    all_goals (repeat (first
      | (with_reducible assumption)
      | (with_reducible apply Blk.new) | (with_reducible apply Blk.new2) | (with_reducible apply Blk.new3)
      | (with_reducible apply Blk.set') | (with_reducible apply Blk.far' _ _ _ (by omega)) | (with_reducible apply Blk.alloc)
      | (with_reducible apply Kept.alloc) | (with_reducible apply Kept.drew) | (with_reducible apply Kept.setCell (ha := (by dsimp only; omega)))))
  case rest =>
    obtain ⟨g, rfl, G, KK⟩ := hcut
    obtain ⟨wo, rfl⟩ : ∃ wo : World, wo = wc := ⟨_, rfl⟩
    obtain ⟨g_s, g_0, g_1, g_2, g_f⟩ := id G
    clear B C x_0 x_1 x_2 x_f y_0 y_1 y_2 y_f K c1 c2 c5 c6
    cases D2
    all_goals go_wp2
    all_goals go_ret
    all_goals exact ⟨ret_bool (by first | (simp [zB]; done) | (simp [zB, *]; done) | (simp_all [zB]; done)), KK⟩
set_option maxHeartbeats 4000000 in
theorem compared_17 (w a b P0 P1 Q0 Q1 N0 N1 D0 D1 : Int) (P2 Q2 N2 D2 : Bool) (W : World)
    (c1 : Makes 79 #[.int .i64 w, .int .u64 a] (.agg #[.int .u64 P0, .int .u64 P1, .bool P2]))
    (c2 : Makes 79 #[.int .i64 w, .int .u64 b] (.agg #[.int .u64 Q0, .int .u64 Q1, .bool Q2]))
    (c6 : Makes 84 #[.agg #[.int .u64 Q0, .int .u64 Q1, .bool Q2]] (.agg #[.int .u64 N0, .int .u64 N1, .bool N2]))
    (c5 : Makes 83 #[.agg #[.int .u64 P0, .int .u64 P1, .bool P2], .agg #[.int .u64 N0, .int .u64 N1, .bool N2]] (.agg #[.int .u64 D0, .int .u64 D1, .bool D2])) :
    Calls Try.prog 74 #[.int .i64 17, .int .i64 w, .int .u64 a, .int .u64 b] W fun e w' => e = .returned (.bool (D2 || zB D0 D1 D2)) ∧ Kept W w' := by
  have hbu := build_zero
  go_enter Try.func74, Try.ntmps74
  go_upto_region 6 with (first
      | ((with_reducible refine (c1.go _).mono ?_); rintro e w1 ⟨rfl, hb1⟩)
      | ((with_reducible refine (c2.go _).mono ?_); rintro e w2 ⟨rfl, hb2⟩
         have B2 := (Blk.new _ _ _ _ _).kept hb2
         have K2 := (hb1.alloc _ _).trans hb2
         have hz2 := ksz hb2
         have hz1 := hb1.1.size
         obtain ⟨a_s, a_0, a_1, a_2, a_f⟩ := id B2))
  have B := B2.alloc #[.int .u64 Q0, .int .u64 Q1, .bool Q2] 68
  have C := Blk.new w2 (.int .u64 Q0) (.int .u64 Q1) (.bool Q2) 68
  have K := K2.alloc #[.int .u64 Q0, .int .u64 Q1, .bool Q2] 68
  clear B2 K2 a_s a_0 a_1 a_2 a_f
  obtain ⟨gx, hgx⟩ : ∃ gx, gx = w1.heap.size := ⟨_, rfl⟩
  obtain ⟨gy, hgy⟩ : ∃ gy, gy = w2.heap.size := ⟨_, rfl⟩
  rw [← hgx] at B hz1 hz2 ⊢
  rw [← hgy] at C hz2 ⊢
  generalize hwq : w2.alloc (.cells #[.int .u64 Q0, .int .u64 Q1, .bool Q2] 68) = wq at *
  clear hwq hgx hgy hb1 hb2 
  obtain ⟨x_s, x_0, x_1, x_2, x_f⟩ := id B
  obtain ⟨y_s, y_0, y_1, y_2, y_f⟩ := id C
  go_cut [11] (fun s11 wx => ∃ g : Nat, s11 = .pointer (some ⟨g, 0, none⟩) ∧ Blk wx g (.int .u64 D0) (.int .u64 D1) (.bool D2) ∧ Kept W wx)
  case first =>
    go_region_held3 (fun w' => w'.cell? ⟨gx, 0, none⟩ = some (.int .u64 P0) ∧ w'.cell? ⟨gx, 1, none⟩ = some (.int .u64 P1) ∧ w'.cell? ⟨gx, 2, none⟩ = some (.bool P2) ∧ w'.cell? ⟨gy, 0, none⟩ = some (.int .u64 Q0) ∧ w'.cell? ⟨gy, 1, none⟩ = some (.int .u64 Q1) ∧ w'.cell? ⟨gy, 2, none⟩ = some (.bool Q2))
        (((try dsimp only); (repeat' apply And.intro) <;> ((repeat (first | rw [World.cell?_drew] | rw [World.cell?_alloc_past _ _ _ (by first | omega | (simp <;> omega))] | rw [World.cell?_setCell_far _ _ _ _ (by dsimp only; first | omega | (simp <;> omega))])); with_reducible assumption)))
        (first
          | ((with_reducible refine (c6.go _).mono ?_); rintro e w5 ⟨rfl, hb5⟩
             have L5 : Kept wq w5 := Kept.trans (by repeat (first | (with_reducible exact Kept.refl _) | (with_reducible apply Kept.drew) | (with_reducible apply Kept.alloc))) hb5
             have hz5 := L5.1.size
             have B5 := B.kept L5
             have C5 := C.kept L5
             obtain ⟨u_s, u_0, u_1, u_2, u_f⟩ := id B5
             obtain ⟨t_s, t_0, t_1, t_2, t_f⟩ := id C5
             try (obtain ⟨z1_s, z1_0, z1_1, z1_2, z1_f⟩ : Blk w5 wq.heap.size (.int .u64 0) (.int .u64 0) (.bool false)
                  focus (refine Blk.kept ?_ hb5; (repeat (first | (with_reducible apply Blk.new) | (with_reducible apply Blk.newd) | (with_reducible apply Blk.drew) | (with_reducible apply Blk.alloc))); done)
                  have Z1 : Blk w5 wq.heap.size (.int .u64 0) (.int .u64 0) (.bool false) := ⟨z1_s, z1_0, z1_1, z1_2, z1_f⟩))
          | ((with_reducible refine (c5.go _).mono ?_); rintro e w6 ⟨rfl, hb6⟩
             have L6 : Kept w5 w6 := Kept.trans (by repeat (first | (with_reducible exact Kept.refl _) | (with_reducible apply Kept.drew) | (with_reducible apply Kept.alloc))) hb6
             have hz6 := L6.1.size
             have B6 := B5.kept L6
             have C6 := C5.kept L6
             obtain ⟨v_s, v_0, v_1, v_2, v_f⟩ := id B6
             obtain ⟨r_s, r_0, r_1, r_2, r_f⟩ := id C6
             try (obtain ⟨y1_s, y1_0, y1_1, y1_2, y1_f⟩ : Blk w6 wq.heap.size (.int .u64 0) (.int .u64 0) (.bool false)
                  focus (refine Blk.kept ?_ hb6; (repeat (first | (with_reducible exact Z1) | (with_reducible apply Blk.drew) | (with_reducible apply Blk.alloc))); done)
                  have Y1 : Blk w6 wq.heap.size (.int .u64 0) (.int .u64 0) (.bool false) := ⟨y1_s, y1_0, y1_1, y1_2, y1_f⟩)
             try (obtain ⟨y3_s, y3_0, y3_1, y3_2, y3_f⟩ : Blk w6 w5.heap.size (.int .u64 0) (.int .u64 0) (.bool false)
                  focus (refine Blk.kept ?_ hb6; (repeat (first | (with_reducible apply Blk.new) | (with_reducible apply Blk.newd) | (with_reducible apply Blk.drew) | (with_reducible apply Blk.alloc))); done)
                  have Y3 : Blk w6 w5.heap.size (.int .u64 0) (.int .u64 0) (.bool false) := ⟨y3_s, y3_0, y3_1, y3_2, y3_f⟩)))
    all_goals (go_wp2_with fail; go_meet)
    all_goals
      refine ⟨_, rfl, ?_, ?_⟩
    all_goals have KW5 := K.trans L5
    all_goals have KW6 := KW5.trans L6
    all_goals have hzW := K.1.size
    all_goals clear hb5 hb6 L5 L6 B C x_0 x_1 x_2 x_f y_0 y_1 y_2 y_f u_0 u_1 u_2 u_f t_0 t_1 t_2 t_f v_0 v_1 v_2 v_f r_0 r_1 r_2 r_f c1 c2 c5 c6
    all_goals (repeat (first
      | (with_reducible assumption)
      | (with_reducible apply Blk.new) | (with_reducible apply Blk.new2) | (with_reducible apply Blk.new3)
      | (with_reducible apply Blk.set') | (with_reducible apply Blk.far' _ _ _ (by omega)) | (with_reducible apply Blk.alloc)
      | (with_reducible apply Kept.alloc) | (with_reducible apply Kept.drew) | (with_reducible apply Kept.setCell (ha := (by dsimp only; omega)))))
  case rest =>
    obtain ⟨g, rfl, G, KK⟩ := hcut
    obtain ⟨wo, rfl⟩ : ∃ wo : World, wo = wc := ⟨_, rfl⟩
    obtain ⟨g_s, g_0, g_1, g_2, g_f⟩ := id G
    clear B C x_0 x_1 x_2 x_f y_0 y_1 y_2 y_f K c1 c2 c5 c6
    cases D2
    all_goals go_wp2
    all_goals go_ret
    all_goals exact ⟨ret_bool (by first | (simp [zB]; done) | (simp [zB, *]; done) | (simp_all [zB]; done)), KK⟩
set_option maxHeartbeats 4000000 in
theorem compared_18 (w a b P0 P1 Q0 Q1 X0 X1 Y0 Y1 N0 N1 D0 D1 : Int) (P2 Q2 X2 Y2 N2 D2 : Bool) (W : World)
    (c1 : Makes 79 #[.int .i64 w, .int .u64 a] (.agg #[.int .u64 P0, .int .u64 P1, .bool P2]))
    (c2 : Makes 79 #[.int .i64 w, .int .u64 b] (.agg #[.int .u64 Q0, .int .u64 Q1, .bool Q2]))
    (c3 : Makes 53 #[.int .i64 w, .int .u64 a] (.agg #[.int .u64 X0, .int .u64 X1, .bool X2]))
    (c4 : Makes 53 #[.int .i64 w, .int .u64 b] (.agg #[.int .u64 Y0, .int .u64 Y1, .bool Y2]))
    (c6 : Makes 84 #[.agg #[.int .u64 Y0, .int .u64 Y1, .bool Y2]] (.agg #[.int .u64 N0, .int .u64 N1, .bool N2]))
    (c5 : Makes 83 #[.agg #[.int .u64 X0, .int .u64 X1, .bool X2], .agg #[.int .u64 N0, .int .u64 N1, .bool N2]] (.agg #[.int .u64 D0, .int .u64 D1, .bool D2])) :
    Calls Try.prog 74 #[.int .i64 18, .int .i64 w, .int .u64 a, .int .u64 b] W fun e w' => e = .returned (.bool (D2)) ∧ Kept W w' := by
  have hbu := build_zero
  go_enter Try.func74, Try.ntmps74
  go_upto_region 6 with (first
      | ((with_reducible refine (c1.go _).mono ?_); rintro e w1 ⟨rfl, hb1⟩)
      | ((with_reducible refine (c2.go _).mono ?_); rintro e w2 ⟨rfl, hb2⟩
         have B2 := (Blk.new _ _ _ _ _).kept hb2
         have K2 := (hb1.alloc _ _).trans hb2
         have hz2 := ksz hb2
         have hz1 := hb1.1.size
         obtain ⟨a_s, a_0, a_1, a_2, a_f⟩ := id B2)
      | ((with_reducible refine (c3.go _).mono ?_); rintro e w3 ⟨rfl, hb3⟩
         have E3 := (B2.alloc _ _).kept hb3
         have F3 := (Blk.new _ _ _ _ _).kept hb3
         have K3 := (K2.alloc _ _).trans hb3
         obtain ⟨b_s, b_0, b_1, b_2, b_f⟩ := id E3)
      | ((with_reducible refine (c4.go _).mono ?_); rintro e w4 ⟨rfl, hb4⟩
         have E4 := (E3.set _ _ _).kept hb4
         have F4 := (F3.far (k := w1.heap.size) (by omega) _ _ _).kept hb4
         have K4 := (K3.set3 (g := w1.heap.size) (by omega) _ _ _).trans hb4
         obtain ⟨d_s, d_0, d_1, d_2, d_f⟩ := id F4))
  have B := E4.far (k := w2.heap.size) (by omega) (.int .u64 Y0) (.int .u64 Y1) (.bool Y2)
  have C := F4.set (.int .u64 Y0) (.int .u64 Y1) (.bool Y2)
  have K := K4.set3 (g := w2.heap.size) (by omega) (.int .u64 Y0) (.int .u64 Y1) (.bool Y2)
  unfold set3 at B C K
  clear B2 K2 E3 F3 K3 E4 F4 K4 a_s a_0 a_1 a_2 a_f b_s b_0 b_1 b_2 b_f d_s d_0 d_1 d_2 d_f
  obtain ⟨gx, hgx⟩ : ∃ gx, gx = w1.heap.size := ⟨_, rfl⟩
  obtain ⟨gy, hgy⟩ : ∃ gy, gy = w2.heap.size := ⟨_, rfl⟩
  rw [← hgx] at B hz1 hz2 ⊢
  rw [← hgy] at C hz2 ⊢
  try rw [← hgy] at B
  try rw [← hgx] at C
  try rw [← hgy] at K
  generalize hwq : ((w4.setCell ⟨gy, 0, none⟩ (.int .u64 Y0)).setCell ⟨gy, 1, none⟩ (.int .u64 Y1)).setCell ⟨gy, 2, none⟩ (.bool Y2) = wq at *
  clear hwq hgx hgy hb1 hb2 hb3 hb4 
  obtain ⟨x_s, x_0, x_1, x_2, x_f⟩ := id B
  obtain ⟨y_s, y_0, y_1, y_2, y_f⟩ := id C
  go_cut [11] (fun s11 wx => ∃ g : Nat, s11 = .pointer (some ⟨g, 0, none⟩) ∧ Blk wx g (.int .u64 D0) (.int .u64 D1) (.bool D2) ∧ Kept W wx)
  case first =>
    go_region_held3 (fun w' => w'.cell? ⟨gx, 0, none⟩ = some (.int .u64 X0) ∧ w'.cell? ⟨gx, 1, none⟩ = some (.int .u64 X1) ∧ w'.cell? ⟨gx, 2, none⟩ = some (.bool X2) ∧ w'.cell? ⟨gy, 0, none⟩ = some (.int .u64 Y0) ∧ w'.cell? ⟨gy, 1, none⟩ = some (.int .u64 Y1) ∧ w'.cell? ⟨gy, 2, none⟩ = some (.bool Y2))
        (((try dsimp only); (repeat' apply And.intro) <;> ((repeat (first | rw [World.cell?_drew] | rw [World.cell?_alloc_past _ _ _ (by first | omega | (simp <;> omega))] | rw [World.cell?_setCell_far _ _ _ _ (by dsimp only; first | omega | (simp <;> omega))])); with_reducible assumption)))
        (first
          | ((with_reducible refine (c6.go _).mono ?_); rintro e w5 ⟨rfl, hb5⟩
             have L5 : Kept wq w5 := Kept.trans (by repeat (first | (with_reducible exact Kept.refl _) | (with_reducible apply Kept.drew) | (with_reducible apply Kept.alloc))) hb5
             have hz5 := L5.1.size
             have B5 := B.kept L5
             have C5 := C.kept L5
             obtain ⟨u_s, u_0, u_1, u_2, u_f⟩ := id B5
             obtain ⟨t_s, t_0, t_1, t_2, t_f⟩ := id C5
             try (obtain ⟨z1_s, z1_0, z1_1, z1_2, z1_f⟩ : Blk w5 wq.heap.size (.int .u64 0) (.int .u64 0) (.bool false)
                  focus (refine Blk.kept ?_ hb5; (repeat (first | (with_reducible apply Blk.new) | (with_reducible apply Blk.newd) | (with_reducible apply Blk.drew) | (with_reducible apply Blk.alloc))); done)
                  have Z1 : Blk w5 wq.heap.size (.int .u64 0) (.int .u64 0) (.bool false) := ⟨z1_s, z1_0, z1_1, z1_2, z1_f⟩))
          | ((with_reducible refine (c5.go _).mono ?_); rintro e w6 ⟨rfl, hb6⟩
             have L6 : Kept w5 w6 := Kept.trans (by repeat (first | (with_reducible exact Kept.refl _) | (with_reducible apply Kept.drew) | (with_reducible apply Kept.alloc))) hb6
             have hz6 := L6.1.size
             have B6 := B5.kept L6
             have C6 := C5.kept L6
             obtain ⟨v_s, v_0, v_1, v_2, v_f⟩ := id B6
             obtain ⟨r_s, r_0, r_1, r_2, r_f⟩ := id C6
             try (obtain ⟨y1_s, y1_0, y1_1, y1_2, y1_f⟩ : Blk w6 wq.heap.size (.int .u64 0) (.int .u64 0) (.bool false)
                  focus (refine Blk.kept ?_ hb6; (repeat (first | (with_reducible exact Z1) | (with_reducible apply Blk.drew) | (with_reducible apply Blk.alloc))); done)
                  have Y1 : Blk w6 wq.heap.size (.int .u64 0) (.int .u64 0) (.bool false) := ⟨y1_s, y1_0, y1_1, y1_2, y1_f⟩)
             try (obtain ⟨y3_s, y3_0, y3_1, y3_2, y3_f⟩ : Blk w6 w5.heap.size (.int .u64 0) (.int .u64 0) (.bool false)
                  focus (refine Blk.kept ?_ hb6; (repeat (first | (with_reducible apply Blk.new) | (with_reducible apply Blk.newd) | (with_reducible apply Blk.drew) | (with_reducible apply Blk.alloc))); done)
                  have Y3 : Blk w6 w5.heap.size (.int .u64 0) (.int .u64 0) (.bool false) := ⟨y3_s, y3_0, y3_1, y3_2, y3_f⟩)))
    all_goals (go_wp2_with fail; go_meet)
    all_goals
      refine ⟨_, rfl, ?_, ?_⟩
    all_goals have KW5 := K.trans L5
    all_goals have KW6 := KW5.trans L6
    all_goals have hzW := K.1.size
    all_goals clear hb5 hb6 L5 L6 B C x_0 x_1 x_2 x_f y_0 y_1 y_2 y_f u_0 u_1 u_2 u_f t_0 t_1 t_2 t_f v_0 v_1 v_2 v_f r_0 r_1 r_2 r_f c1 c2 c5 c6
    all_goals (repeat (first
      | (with_reducible assumption)
      | (with_reducible apply Blk.new) | (with_reducible apply Blk.new2) | (with_reducible apply Blk.new3)
      | (with_reducible apply Blk.set') | (with_reducible apply Blk.far' _ _ _ (by omega)) | (with_reducible apply Blk.alloc)
      | (with_reducible apply Kept.alloc) | (with_reducible apply Kept.drew) | (with_reducible apply Kept.setCell (ha := (by dsimp only; omega)))))
  case rest =>
    obtain ⟨g, rfl, G, KK⟩ := hcut
    obtain ⟨wo, rfl⟩ : ∃ wo : World, wo = wc := ⟨_, rfl⟩
    obtain ⟨g_s, g_0, g_1, g_2, g_f⟩ := id G
    clear B C x_0 x_1 x_2 x_f y_0 y_1 y_2 y_f K c1 c2 c5 c6
    cases D2
    all_goals go_wp2
    all_goals go_ret
    all_goals exact ⟨ret_bool (by first | (simp [zB]; done) | (simp [zB, *]; done) | (simp_all [zB]; done)), KK⟩
set_option maxHeartbeats 4000000 in
theorem compared_19 (w a b P0 P1 Q0 Q1 X0 X1 Y0 Y1 N0 N1 D0 D1 : Int) (P2 Q2 X2 Y2 N2 D2 : Bool) (W : World)
    (c1 : Makes 79 #[.int .i64 w, .int .u64 a] (.agg #[.int .u64 P0, .int .u64 P1, .bool P2]))
    (c2 : Makes 79 #[.int .i64 w, .int .u64 b] (.agg #[.int .u64 Q0, .int .u64 Q1, .bool Q2]))
    (c3 : Makes 53 #[.int .i64 w, .int .u64 a] (.agg #[.int .u64 X0, .int .u64 X1, .bool X2]))
    (c4 : Makes 53 #[.int .i64 w, .int .u64 b] (.agg #[.int .u64 Y0, .int .u64 Y1, .bool Y2]))
    (c6 : Makes 84 #[.agg #[.int .u64 Y0, .int .u64 Y1, .bool Y2]] (.agg #[.int .u64 N0, .int .u64 N1, .bool N2]))
    (c5 : Makes 83 #[.agg #[.int .u64 X0, .int .u64 X1, .bool X2], .agg #[.int .u64 N0, .int .u64 N1, .bool N2]] (.agg #[.int .u64 D0, .int .u64 D1, .bool D2])) :
    Calls Try.prog 74 #[.int .i64 19, .int .i64 w, .int .u64 a, .int .u64 b] W fun e w' => e = .returned (.bool (D2 || zB D0 D1 D2)) ∧ Kept W w' := by
  have hbu := build_zero
  go_enter Try.func74, Try.ntmps74
  go_upto_region 6 with (first
      | ((with_reducible refine (c1.go _).mono ?_); rintro e w1 ⟨rfl, hb1⟩)
      | ((with_reducible refine (c2.go _).mono ?_); rintro e w2 ⟨rfl, hb2⟩
         have B2 := (Blk.new _ _ _ _ _).kept hb2
         have K2 := (hb1.alloc _ _).trans hb2
         have hz2 := ksz hb2
         have hz1 := hb1.1.size
         obtain ⟨a_s, a_0, a_1, a_2, a_f⟩ := id B2)
      | ((with_reducible refine (c3.go _).mono ?_); rintro e w3 ⟨rfl, hb3⟩
         have E3 := (B2.alloc _ _).kept hb3
         have F3 := (Blk.new _ _ _ _ _).kept hb3
         have K3 := (K2.alloc _ _).trans hb3
         obtain ⟨b_s, b_0, b_1, b_2, b_f⟩ := id E3)
      | ((with_reducible refine (c4.go _).mono ?_); rintro e w4 ⟨rfl, hb4⟩
         have E4 := (E3.set _ _ _).kept hb4
         have F4 := (F3.far (k := w1.heap.size) (by omega) _ _ _).kept hb4
         have K4 := (K3.set3 (g := w1.heap.size) (by omega) _ _ _).trans hb4
         obtain ⟨d_s, d_0, d_1, d_2, d_f⟩ := id F4))
  have B := E4.far (k := w2.heap.size) (by omega) (.int .u64 Y0) (.int .u64 Y1) (.bool Y2)
  have C := F4.set (.int .u64 Y0) (.int .u64 Y1) (.bool Y2)
  have K := K4.set3 (g := w2.heap.size) (by omega) (.int .u64 Y0) (.int .u64 Y1) (.bool Y2)
  unfold set3 at B C K
  clear B2 K2 E3 F3 K3 E4 F4 K4 a_s a_0 a_1 a_2 a_f b_s b_0 b_1 b_2 b_f d_s d_0 d_1 d_2 d_f
  obtain ⟨gx, hgx⟩ : ∃ gx, gx = w1.heap.size := ⟨_, rfl⟩
  obtain ⟨gy, hgy⟩ : ∃ gy, gy = w2.heap.size := ⟨_, rfl⟩
  rw [← hgx] at B hz1 hz2 ⊢
  rw [← hgy] at C hz2 ⊢
  try rw [← hgy] at B
  try rw [← hgx] at C
  try rw [← hgy] at K
  generalize hwq : ((w4.setCell ⟨gy, 0, none⟩ (.int .u64 Y0)).setCell ⟨gy, 1, none⟩ (.int .u64 Y1)).setCell ⟨gy, 2, none⟩ (.bool Y2) = wq at *
  clear hwq hgx hgy hb1 hb2 hb3 hb4 
  obtain ⟨x_s, x_0, x_1, x_2, x_f⟩ := id B
  obtain ⟨y_s, y_0, y_1, y_2, y_f⟩ := id C
  go_cut [11] (fun s11 wx => ∃ g : Nat, s11 = .pointer (some ⟨g, 0, none⟩) ∧ Blk wx g (.int .u64 D0) (.int .u64 D1) (.bool D2) ∧ Kept W wx)
  case first =>
    go_region_held3 (fun w' => w'.cell? ⟨gx, 0, none⟩ = some (.int .u64 X0) ∧ w'.cell? ⟨gx, 1, none⟩ = some (.int .u64 X1) ∧ w'.cell? ⟨gx, 2, none⟩ = some (.bool X2) ∧ w'.cell? ⟨gy, 0, none⟩ = some (.int .u64 Y0) ∧ w'.cell? ⟨gy, 1, none⟩ = some (.int .u64 Y1) ∧ w'.cell? ⟨gy, 2, none⟩ = some (.bool Y2))
        (((try dsimp only); (repeat' apply And.intro) <;> ((repeat (first | rw [World.cell?_drew] | rw [World.cell?_alloc_past _ _ _ (by first | omega | (simp <;> omega))] | rw [World.cell?_setCell_far _ _ _ _ (by dsimp only; first | omega | (simp <;> omega))])); with_reducible assumption)))
        (first
          | ((with_reducible refine (c6.go _).mono ?_); rintro e w5 ⟨rfl, hb5⟩
             have L5 : Kept wq w5 := Kept.trans (by repeat (first | (with_reducible exact Kept.refl _) | (with_reducible apply Kept.drew) | (with_reducible apply Kept.alloc))) hb5
             have hz5 := L5.1.size
             have B5 := B.kept L5
             have C5 := C.kept L5
             obtain ⟨u_s, u_0, u_1, u_2, u_f⟩ := id B5
             obtain ⟨t_s, t_0, t_1, t_2, t_f⟩ := id C5
             try (obtain ⟨z1_s, z1_0, z1_1, z1_2, z1_f⟩ : Blk w5 wq.heap.size (.int .u64 0) (.int .u64 0) (.bool false)
                  focus (refine Blk.kept ?_ hb5; (repeat (first | (with_reducible apply Blk.new) | (with_reducible apply Blk.newd) | (with_reducible apply Blk.drew) | (with_reducible apply Blk.alloc))); done)
                  have Z1 : Blk w5 wq.heap.size (.int .u64 0) (.int .u64 0) (.bool false) := ⟨z1_s, z1_0, z1_1, z1_2, z1_f⟩))
          | ((with_reducible refine (c5.go _).mono ?_); rintro e w6 ⟨rfl, hb6⟩
             have L6 : Kept w5 w6 := Kept.trans (by repeat (first | (with_reducible exact Kept.refl _) | (with_reducible apply Kept.drew) | (with_reducible apply Kept.alloc))) hb6
             have hz6 := L6.1.size
             have B6 := B5.kept L6
             have C6 := C5.kept L6
             obtain ⟨v_s, v_0, v_1, v_2, v_f⟩ := id B6
             obtain ⟨r_s, r_0, r_1, r_2, r_f⟩ := id C6
             try (obtain ⟨y1_s, y1_0, y1_1, y1_2, y1_f⟩ : Blk w6 wq.heap.size (.int .u64 0) (.int .u64 0) (.bool false)
                  focus (refine Blk.kept ?_ hb6; (repeat (first | (with_reducible exact Z1) | (with_reducible apply Blk.drew) | (with_reducible apply Blk.alloc))); done)
                  have Y1 : Blk w6 wq.heap.size (.int .u64 0) (.int .u64 0) (.bool false) := ⟨y1_s, y1_0, y1_1, y1_2, y1_f⟩)
             try (obtain ⟨y3_s, y3_0, y3_1, y3_2, y3_f⟩ : Blk w6 w5.heap.size (.int .u64 0) (.int .u64 0) (.bool false)
                  focus (refine Blk.kept ?_ hb6; (repeat (first | (with_reducible apply Blk.new) | (with_reducible apply Blk.newd) | (with_reducible apply Blk.drew) | (with_reducible apply Blk.alloc))); done)
                  have Y3 : Blk w6 w5.heap.size (.int .u64 0) (.int .u64 0) (.bool false) := ⟨y3_s, y3_0, y3_1, y3_2, y3_f⟩)))
    all_goals (go_wp2_with fail; go_meet)
    all_goals
      refine ⟨_, rfl, ?_, ?_⟩
    all_goals have KW5 := K.trans L5
    all_goals have KW6 := KW5.trans L6
    all_goals have hzW := K.1.size
    all_goals clear hb5 hb6 L5 L6 B C x_0 x_1 x_2 x_f y_0 y_1 y_2 y_f u_0 u_1 u_2 u_f t_0 t_1 t_2 t_f v_0 v_1 v_2 v_f r_0 r_1 r_2 r_f c1 c2 c5 c6
    all_goals (repeat (first
      | (with_reducible assumption)
      | (with_reducible apply Blk.new) | (with_reducible apply Blk.new2) | (with_reducible apply Blk.new3)
      | (with_reducible apply Blk.set') | (with_reducible apply Blk.far' _ _ _ (by omega)) | (with_reducible apply Blk.alloc)
      | (with_reducible apply Kept.alloc) | (with_reducible apply Kept.drew) | (with_reducible apply Kept.setCell (ha := (by dsimp only; omega)))))
  case rest =>
    obtain ⟨g, rfl, G, KK⟩ := hcut
    obtain ⟨wo, rfl⟩ : ∃ wo : World, wo = wc := ⟨_, rfl⟩
    obtain ⟨g_s, g_0, g_1, g_2, g_f⟩ := id G
    clear B C x_0 x_1 x_2 x_f y_0 y_1 y_2 y_f K c1 c2 c5 c6
    cases D2
    all_goals go_wp2
    all_goals go_ret
    all_goals exact ⟨ret_bool (by first | (simp [zB]; done) | (simp [zB, *]; done) | (simp_all [zB]; done)), KK⟩
theorem plE_sh {n : Nat} {op x y : Int} (ho : op = 12 ∨ op = 13) : plE n op x y = if (n : Int) ≤ y then 1 else 0 := by
  rcases ho with rfl | rfl <;> rfl
theorem tdiv_floor (s P : Int) (hP : 0 < P) : (s.tmod P < 0 ∧ s.tdiv P + -1 = s / P) ∨ (¬ s.tmod P < 0 ∧ s.tdiv P = s / P) := by
  have h1 := Int.emod_nonneg s (show P ≠ 0 by omega)
  have h2 := Int.emod_lt_of_pos s hP
  by_cases h : 0 ≤ s ∨ P ∣ s
  · exact .inr ⟨by rw [Int.tmod_eq_emod, if_pos h]; omega, by rw [Int.tdiv_eq_ediv, if_pos h]; omega⟩
  · refine .inl ⟨by rw [Int.tmod_eq_emod, if_neg h]; omega, ?_⟩
    rw [Int.tdiv_eq_ediv, if_neg h, Int.sign_eq_one_of_pos hP]; omega
theorem sg_rest {n m : Nat} (h : m ≤ n) (x : Int) : ((sg n x).tmod (pw m) != 0) = (x % pw m != 0) := by
  have e : sg n x % pw m = x % pw m := by
    have hd : pw n = pw m * pw (n - m) := by rw [← pw_add]; congr 1; omega
    unfold sg
    split
    · rfl
    · rw [hd]; exact Int.sub_mul_emod_self_left _ _ _
  have i1 : (sg n x).tmod (pw m) = 0 ↔ pw m ∣ sg n x := ⟨fun h => Int.dvd_of_tmod_eq_zero h, fun h => Int.tmod_eq_zero_of_dvd h⟩
  have i2 : sg n x % pw m = 0 ↔ pw m ∣ sg n x := ⟨fun h => Int.dvd_of_emod_eq_zero h, fun h => Int.emod_eq_zero_of_dvd h⟩
  rw [Bool.eq_iff_iff]
  simp only [bne_iff_ne, ne_eq]
  rw [i1, ← i2, e]
theorem big_neg1 : Value.agg #[.int .u64 0, .int .u64 1, .bool true] = bigOf (-1) := by
  unfold bigOf mag; rfl
theorem right_eq {n : Nat} {op fl x y N1 V : Int} (ho : op = 12 ∨ op = 13) (hf : fl = 0 ∨ fl = 4) (hp : plE n op x y = 0) (hr : (N1 != 0) = lrB n op x y) (hV : V = plV n op x y) :
    Value.tuple #[.int .u64 (if decide (fl = 4) && N1 != 0 then 0 else V), .int .i64 (if decide (fl = 4) && N1 != 0 then 1 else 0)] = .tuple #[.int .u64 (aplR n op fl x y), .int .i64 (aplE n op fl x y)] := by
  subst hV
  unfold aplR aplE
  rw [hr, hp, brB_div hf]
  cases decide (fl = 4) && lrB n op x y <;> exact two_eq rfl rfl

theorem right_of (op w fl a b : Int) (ho : op = 12 ∨ op = 13) (hf : fl = 0 ∨ fl = 4) (h1 : 1 ≤ w) (h2 : w ≤ 64) (ha : 0 ≤ a) (ha' : a ≤ 18446744073709551615) (hb : 0 ≤ b) (hb' : b ≤ 18446744073709551615) :
    Makes 73 #[.int .i64 op, .int .i64 w, .int .i64 fl, .int .u64 a, .int .u64 b] (aplT w op fl a b) := by
  intro W
  have hp := pw_pos w.toNat
  have hl := pw_le64 (n := w.toNat) (by omega)
  have x0 := Int.emod_nonneg a (show pw w.toNat ≠ 0 by omega)
  have x1 := Int.emod_lt_of_pos a hp
  have y0 := Int.emod_nonneg b (show pw w.toNat ≠ 0 by omega)
  have c0 := fun W => Cut_any w b W h1 h2 hb hb'
  have hwn : ((w.toNat : Nat) : Int) = w := by omega
  have hE := plE_sh (n := w.toNat) (x := a % pw w.toNat) (y := b % pw w.toNat) ho
  by_cases hy : b % pw w.toNat < w
  · rw [hwn, if_neg (show ¬ w ≤ b % pw w.toNat by omega)] at hE
    have q0 := pw_pos (b % pw w.toNat).toNat
    have q1 := pw_le63 (n := (b % pw w.toNat).toNat) (by omega)
    have c1 := Plain_of w a h1 h2 ha ha'
    have c6 : Makes 82 #[.int .u64 (b % pw w.toNat)] (bigOf (pw (b % pw w.toNat).toNat)) := fun W => power_any _ W y0 (by omega)
    rcases ho with rfl | rfl
    · have e2 : ((a % pw w.toNat).tmod (pw (b % pw w.toNat).toNat)) = a % pw w.toNat % pw (b % pw w.toNat).toNat := Int.tmod_eq_emod_of_nonneg x0
      have r0 := Int.emod_nonneg (a % pw w.toNat) (show pw (b % pw w.toNat).toNat ≠ 0 by omega)
      have c5 := quotient_of (a % pw w.toNat) (pw (b % pw w.toNat).toNat) ⟨by omega, by omega⟩ ⟨by omega, by omega⟩ (by omega)
      have rU := rest_u64 (s := a % pw w.toNat) (t := pw (b % pw w.toNat).toNat) ⟨by omega, by omega⟩
      rw [show bigOf ((a % pw w.toNat).tmod (pw (b % pw w.toNat).toNat)) = .agg #[.int .u64 (mag ((a % pw w.toNat).tmod (pw (b % pw w.toNat).toNat)) / 18446744073709551616), .int .u64 (mag ((a % pw w.toNat).tmod (pw (b % pw w.toNat).toNat)) % 18446744073709551616), .bool false] from by
        unfold bigOf; rw [decide_eq_false (show ¬ (a % pw w.toNat).tmod (pw (b % pw w.toNat).toNat) < 0 by omega)]] at c5
      refine (right_12 _ _ _ _ _ _ _ _ _ _ _ _ _ _ _ _ _ W h1 h2 y0 hy hf c0 c1 c6 c5 (Wrapped_of w _ h1 h2)).mono fun e w' ⟨he, hw⟩ => ⟨?_, hw⟩
      rw [he]
      exact congrArg Ending.returned (right_eq (Or.inl rfl) hf hE (by rw [rU, e2]; rfl) (by rw [quo_mod x0 x1 (by omega)]; rfl))
    · have sb := sgn_bd w a
      have es := sgn_in a h1 h2
      have c2 := With_of w a h1 h2 ha ha'
      have c5 := quotient_of (sgn w a) (pw (b % pw w.toNat).toNat) ⟨by omega, by omega⟩ ⟨by omega, by omega⟩ (by omega)
      have rS := rest_u64 (s := sgn w a) (t := pw (b % pw w.toNat).toNat) ⟨by omega, by omega⟩
      have rr := sg_rest (n := w.toNat) (m := (b % pw w.toNat).toNat) (by omega) (a % pw w.toNat)
      rcases tdiv_floor (sgn w a) (pw (b % pw w.toNat).toNat) q0 with ⟨t1, t2⟩ | ⟨t1, t2⟩
      · rw [show bigOf ((sgn w a).tmod (pw (b % pw w.toNat).toNat)) = .agg #[.int .u64 (mag ((sgn w a).tmod (pw (b % pw w.toNat).toNat)) / 18446744073709551616), .int .u64 (mag ((sgn w a).tmod (pw (b % pw w.toNat).toNat)) % 18446744073709551616), .bool true] from by
          unfold bigOf; rw [decide_eq_true t1]] at c5
        have hq : (sgn w a).tdiv (pw (b % pw w.toNat).toNat) = sgn w a / pw (b % pw w.toNat).toNat + 1 := by omega
        have d1 : -9223372036854775808 ≤ sgn w a / pw (b % pw w.toNat).toNat := by
          refine (Int.le_ediv_iff_mul_le q0).2 ?_
          omega
        have d2 : sgn w a / pw (b % pw w.toNat).toNat ≤ 9223372036854775807 := by
          refine Int.le_of_lt_add_one ((Int.ediv_lt_iff_lt_mul q0).2 ?_)
          omega
        have c8 := Plus_of ((sgn w a).tdiv (pw (b % pw w.toNat).toNat)) (-1) ⟨by omega, by omega⟩ ⟨by omega, by omega⟩ ⟨by omega, by omega⟩
        rw [← big_neg1, t2] at c8
        refine (right_13t _ _ _ _ _ _ _ _ _ _ _ _ _ _ _ _ _ _ _ _ _ _ _ W h1 h2 y0 hy hf c0 c1 c2 c6 c5 c8 (Wrapped_of w _ h1 h2)).mono fun e w' ⟨he, hw⟩ => ⟨?_, hw⟩
        rw [he]
        exact congrArg Ending.returned (right_eq (Or.inr rfl) hf hE (by rw [rS, es, rr]; rfl) (by rw [es]; rfl))
      · rw [show bigOf ((sgn w a).tmod (pw (b % pw w.toNat).toNat)) = .agg #[.int .u64 (mag ((sgn w a).tmod (pw (b % pw w.toNat).toNat)) / 18446744073709551616), .int .u64 (mag ((sgn w a).tmod (pw (b % pw w.toNat).toNat)) % 18446744073709551616), .bool false] from by
          unfold bigOf; rw [decide_eq_false t1]] at c5
        refine (right_13f _ _ _ _ _ _ _ _ _ _ _ _ _ _ _ _ _ _ _ _ W h1 h2 y0 hy hf c0 c1 c2 c6 c5 (Wrapped_of w _ h1 h2)).mono fun e w' ⟨he, hw⟩ => ⟨?_, hw⟩
        rw [he]
        exact congrArg Ending.returned (right_eq (Or.inr rfl) hf hE (by rw [rS, es, rr]; rfl) (by rw [t2, es]; rfl))
  · rw [hwn, if_pos (show w ≤ b % pw w.toNat by omega)] at hE
    refine (right_over op w fl a b _ W h1 h2 y0 (by omega) c0).mono fun e w' ⟨he, hw⟩ => ⟨?_, hw⟩
    rw [he]
    unfold aplT aplR aplE
    rw [hE]
    rfl

theorem zB_of (z : Int) (h : -36893488147419103232 < z ∧ z < 36893488147419103232) : zB (mag z / 18446744073709551616) (mag z % 18446744073709551616) (decide (z < 0)) = (z == 0) := by
  unfold zB
  rw [Bool.eq_iff_iff]
  simp only [Bool.and_eq_true, beq_iff_eq, decide_eq_false_iff_not]
  unfold mag
  split <;> omega
theorem compared_of (op w a b : Int) (ho : op = 14 ∨ op = 15 ∨ op = 16 ∨ op = 17 ∨ op = 18 ∨ op = 19) (h1 : 1 ≤ w) (h2 : w ≤ 64) (ha : 0 ≤ a) (ha' : a ≤ 18446744073709551615) (hb : 0 ≤ b) (hb' : b ≤ 18446744073709551615) :
    Makes 74 #[.int .i64 op, .int .i64 w, .int .u64 a, .int .u64 b] (.bool (cmpB op (a % pw w.toNat) (b % pw w.toNat) (sgn w a) (sgn w b))) := by
  intro W
  have xa := mod_u64 a h1 h2
  have xb := mod_u64 b h1 h2
  have sa := sgn_bd w a
  have sb := sgn_bd w b
  have c1 := Plain_of w a h1 h2 ha ha'
  have c2 := Plain_of w b h1 h2 hb hb'
  have c3 := With_of w a h1 h2 ha ha'
  have c4 := With_of w b h1 h2 hb hb'
  have hu := Plus_of (a % pw w.toNat) (-(b % pw w.toNat)) ⟨by omega, by omega⟩ ⟨by omega, by omega⟩ ⟨by omega, by omega⟩
  have hs := Plus_of (sgn w a) (-sgn w b) ⟨by omega, by omega⟩ ⟨by omega, by omega⟩ ⟨by omega, by omega⟩
  have mu := Minus_of (b % pw w.toNat)
  have ms := Minus_of (sgn w b)
  have zu := zB_of (a % pw w.toNat + -(b % pw w.toNat)) ⟨by omega, by omega⟩
  have zs := zB_of (sgn w a + -sgn w b) ⟨by omega, by omega⟩
  generalize a % pw w.toNat = x at *
  generalize b % pw w.toNat = y at *
  generalize sgn w a = s at *
  generalize sgn w b = t at *
  have out : ∀ {b1 b2 : Bool} {e : Ending}, b1 = b2 → e = .returned (.bool b1) → e = .returned (.bool b2) := fun h k => h ▸ k
  rcases ho with rfl | rfl | rfl | rfl | rfl | rfl
  · refine (compared_14 _ _ _ _ _ _ _ _ _ _ _ _ _ _ _ W c1 c2 mu hu).mono fun e w' ⟨he, hw⟩ => ⟨out ?_ he, hw⟩
    rw [zu, Bool.eq_iff_iff]; simp [cmpB]; omega
  · refine (compared_15 _ _ _ _ _ _ _ _ _ _ _ _ _ _ _ W c1 c2 mu hu).mono fun e w' ⟨he, hw⟩ => ⟨out ?_ he, hw⟩
    rw [zu, Bool.eq_iff_iff]; simp [cmpB]; omega
  · refine (compared_16 _ _ _ _ _ _ _ _ _ _ _ _ _ _ _ W c1 c2 mu hu).mono fun e w' ⟨he, hw⟩ => ⟨out ?_ he, hw⟩
    rw [Bool.eq_iff_iff]; simp [cmpB]; omega
  · refine (compared_17 _ _ _ _ _ _ _ _ _ _ _ _ _ _ _ W c1 c2 mu hu).mono fun e w' ⟨he, hw⟩ => ⟨out ?_ he, hw⟩
    rw [zu, Bool.eq_iff_iff]; simp [cmpB]; omega
  · refine (compared_18 _ _ _ _ _ _ _ _ _ _ _ _ _ _ _ _ _ _ _ _ _ W c1 c2 c3 c4 ms hs).mono fun e w' ⟨he, hw⟩ => ⟨out ?_ he, hw⟩
    rw [Bool.eq_iff_iff]; simp [cmpB]; omega
  · refine (compared_19 _ _ _ _ _ _ _ _ _ _ _ _ _ _ _ _ _ _ _ _ _ W c1 c2 c3 c4 ms hs).mono fun e w' ⟨he, hw⟩ => ⟨out ?_ he, hw⟩
    rw [zs, Bool.eq_iff_iff]; simp [cmpB]; omega
def natOp (op : Int) (a b : Nat) : Nat := if op = 8 then a &&& b else if op = 9 then a ||| b else a ^^^ b
theorem bit_of (a k : Nat) : a / 2 ^ k % 2 = if a.testBit k then 1 else 0 := by
  rw [Nat.testBit_eq_decide_div_mod_eq]
  have : a / 2 ^ k % 2 = 0 ∨ a / 2 ^ k % 2 = 1 := by omega
  rcases this with h | h <;> rw [h] <;> rfl
theorem natOp_bit (op : Int) (ho : op = 8 ∨ op = 9 ∨ op = 10) (a b k : Nat) : ((natOp op a b / 2 ^ k % 2 : Nat) : Int) = bitv op ((a / 2 ^ k % 2 : Nat) : Int) ((b / 2 ^ k % 2 : Nat) : Int) := by
  rw [bit_of, bit_of, bit_of]
  rcases ho with rfl | rfl | rfl
  · show ((if (a &&& b).testBit k then 1 else 0 : Nat) : Int) = _
    rw [Nat.testBit_and]
    cases a.testBit k <;> cases b.testBit k <;> rfl
  · show ((if (a ||| b).testBit k then 1 else 0 : Nat) : Int) = _
    rw [Nat.testBit_or]
    cases a.testBit k <;> cases b.testBit k <;> rfl
  · show ((if (a ^^^ b).testBit k then 1 else 0 : Nat) : Int) = _
    rw [Nat.testBit_xor]
    cases a.testBit k <;> cases b.testBit k <;> rfl
theorem pw_cast (k : Nat) : pw k = ((2 ^ k : Nat) : Int) := by unfold pw; simp
theorem firstBits_nat (op : Int) (ho : op = 8 ∨ op = 9 ∨ op = 10) (a b k : Nat) : firstBits op (a : Int) (b : Int) k = ((natOp op a b % 2 ^ k : Nat) : Int) := by
  induction k with
  | zero => show (0 : Int) = _; rw [Nat.pow_zero, Nat.mod_one]; rfl
  | succ k ih =>
    have hb := natOp_bit op ho a b k
    show firstBits op a b k + pw k * bitv op ((a : Int) / pw k % 2) ((b : Int) / pw k % 2) = _
    have e1 : (a : Int) / pw k % 2 = ((a / 2 ^ k % 2 : Nat) : Int) := by rw [pw_cast]; simp
    have e2 : (b : Int) / pw k % 2 = ((b / 2 ^ k % 2 : Nat) : Int) := by rw [pw_cast]; simp
    rw [ih, e1, e2, ← hb, pw_cast, Nat.mod_pow_succ, Int.natCast_add, Int.natCast_mul]
theorem firstBits_of (op a b : Int) (n : Nat) (ho : op = 8 ∨ op = 9 ∨ op = 10) (hn : n ≤ 64) (ha : 0 ≤ a) (hb : 0 ≤ b) :
    firstBits op a b n = if op = 8 then bits .and .u64 (a % pw n) (b % pw n) else if op = 9 then bits .or .u64 (a % pw n) (b % pw n) else bits .xor .u64 (a % pw n) (b % pw n) := by
  obtain ⟨x, rfl⟩ := Int.eq_ofNat_of_zero_le ha
  obtain ⟨y, rfl⟩ := Int.eq_ofNat_of_zero_le hb
  have hl : 2 ^ n ≤ 2 ^ 64 := Nat.pow_le_pow_right (by decide) hn
  have hp : 0 < 2 ^ n := Nat.two_pow_pos n
  have hx : x % 2 ^ n < 18446744073709551616 := Nat.lt_of_lt_of_le (Nat.mod_lt _ hp) hl
  have hy : y % 2 ^ n < 18446744073709551616 := Nat.lt_of_lt_of_le (Nat.mod_lt _ hp) hl
  have e1 : (x : Int) % pw n = ((x % 2 ^ n : Nat) : Int) := by rw [pw_cast]; simp
  have e2 : (y : Int) % pw n = ((y % 2 ^ n : Nat) : Int) := by rw [pw_cast]; simp
  rw [firstBits_nat op ho, e1, e2]
  rcases ho with rfl | rfl | rfl
  · rw [if_pos rfl, bits_and_u64_nat _ _ hx hy]
    show (((x &&& y) % 2 ^ n : Nat) : Int) = _
    rw [Nat.and_mod_two_pow]
  · rw [if_neg (by decide), if_pos rfl, bits_or_u64_nat _ _ hx hy]
    show (((x ||| y) % 2 ^ n : Nat) : Int) = _
    rw [Nat.or_mod_two_pow]
  · rw [if_neg (by decide), if_neg (by decide), bits_xor_u64_nat _ _ hx hy]
    show (((x ^^^ y) % 2 ^ n : Nat) : Int) = _
    rw [Nat.xor_mod_two_pow]
theorem bitwise_of (op w a b : Int) (ho : op = 8 ∨ op = 9 ∨ op = 10) (h1 : 1 ≤ w) (h2 : w ≤ 64) (ha : 0 ≤ a) (ha' : a ≤ 18446744073709551615) (hb : 0 ≤ b) (hb' : b ≤ 18446744073709551615) (W : World) :
    Calls Try.prog 72 #[.int .i64 op, .int .i64 w, .int .u64 a, .int .u64 b] W fun e w' => e = .returned (.int .u64 (plV w.toNat op (a % pw w.toNat) (b % pw w.toNat))) ∧ W = w' := by
  refine (bitwise_any op w a b W h1 h2 ha ha' hb hb' ho).mono fun e w' ⟨he, hw⟩ => ⟨?_, hw⟩
  rw [he, firstBits_of op a b w.toNat ho (by omega) ha hb]
  rcases ho with rfl | rfl | rfl <;> rfl
theorem andNot_bit {fl F : Int} (h : bits .andNot .i64 fl F = 0) (i : Nat) (hi : (BitVec.ofInt 64 fl).toNat.testBit i = true) : (BitVec.ofInt 64 F).toNat.testBit i = true := by
  have hx : IntKind.i64.wrap (((BitVec.ofInt 64 fl) &&& ~~~(BitVec.ofInt 64 F)).toNat : Int) = 0 := h
  rw [IntKind.wrap_i64] at hx
  have hlt : ((BitVec.ofInt 64 fl) &&& ~~~(BitVec.ofInt 64 F)).toNat < 2 ^ 64 := BitVec.isLt _
  have hz : ((BitVec.ofInt 64 fl) &&& ~~~(BitVec.ofInt 64 F)).toNat = 0 := by
    have : (2 : Nat) ^ 64 = 18446744073709551616 := by decide
    omega
  have hi64 : i < 64 := by
    by_cases h64 : i < 64
    · exact h64
    · have : (BitVec.ofInt 64 fl).toNat < 2 ^ i := Nat.lt_of_lt_of_le (BitVec.isLt _) (Nat.pow_le_pow_right (by decide) (by omega))
      rw [Nat.testBit_lt_two_pow this] at hi
      exact absurd hi (by decide)
  have hb : ((BitVec.ofInt 64 fl) &&& ~~~(BitVec.ofInt 64 F)).getLsbD i = false := by
    rw [← BitVec.testBit_toNat, hz, Nat.zero_testBit]
  rw [BitVec.getLsbD_and, BitVec.getLsbD_not, ← BitVec.testBit_toNat, hi, decide_eq_true hi64] at hb
  rw [BitVec.testBit_toNat]
  simpa using hb
theorem ofInt_small {fl : Int} (h0 : -9223372036854775808 ≤ fl) (h1 : fl ≤ 9223372036854775807) {n : Nat} (hn : n < 9223372036854775808) (h : (BitVec.ofInt 64 fl).toNat = n) : fl = n := by
  rw [BitVec.toNat_ofInt] at h
  have : ((2 ^ 64 : Nat) : Int) = 18446744073709551616 := by decide
  rw [this] at h
  omega
theorem flags_0 {fl : Int} (h0 : -9223372036854775808 ≤ fl) (h1 : fl ≤ 9223372036854775807) (h : bits .andNot .i64 fl 0 = 0) : fl = 0 := by
  have hb := andNot_bit h
  refine ofInt_small h0 h1 (n := 0) (by decide) ?_
  refine Nat.lt_one_iff.1 (Nat.lt_pow_two_of_testBit (n := 0) _ fun i _ => ?_)
  cases hi : (BitVec.ofInt 64 fl).toNat.testBit i
  · rfl
  · have := hb i hi
    simp at this
theorem flags_3 {fl : Int} (h0 : -9223372036854775808 ≤ fl) (h1 : fl ≤ 9223372036854775807) (h : bits .andNot .i64 fl 3 = 0) : fl = 0 ∨ fl = 1 ∨ fl = 2 ∨ fl = 3 := by
  have hb := andNot_bit h
  have hF : (BitVec.ofInt 64 3).toNat = 3 := by decide +kernel
  rw [hF] at hb
  have hl : (BitVec.ofInt 64 fl).toNat < 2 ^ 2 := Nat.lt_pow_two_of_testBit _ fun i hi2 => by
    cases hi : (BitVec.ofInt 64 fl).toNat.testBit i
    · rfl
    · have := hb i hi
      rw [Nat.testBit_lt_two_pow (Nat.lt_of_lt_of_le (show 3 < 2 ^ 2 by decide) (Nat.pow_le_pow_right (by decide) hi2))] at this
      exact absurd this (by decide)
  have := ofInt_small h0 h1 (n := (BitVec.ofInt 64 fl).toNat) (by omega) rfl
  omega
theorem flags_4 {fl : Int} (h0 : -9223372036854775808 ≤ fl) (h1 : fl ≤ 9223372036854775807) (h : bits .andNot .i64 fl 4 = 0) : fl = 0 ∨ fl = 4 := by
  have hb := andNot_bit h
  have hF : (BitVec.ofInt 64 4).toNat = 4 := by decide +kernel
  rw [hF] at hb
  have hl : (BitVec.ofInt 64 fl).toNat < 2 ^ 3 := Nat.lt_pow_two_of_testBit _ fun i hi2 => by
    cases hi : (BitVec.ofInt 64 fl).toNat.testBit i
    · rfl
    · have := hb i hi
      rw [Nat.testBit_lt_two_pow (Nat.lt_of_lt_of_le (show 4 < 2 ^ 3 by decide) (Nat.pow_le_pow_right (by decide) hi2))] at this
      exact absurd this (by decide)
  have e := ofInt_small h0 h1 (n := (BitVec.ofInt 64 fl).toNat) (by omega) rfl
  have t0 := hb 0
  have t1 := hb 1
  generalize (BitVec.ofInt 64 fl).toNat = n at *
  have : n = 0 ∨ n = 1 ∨ n = 2 ∨ n = 3 ∨ n = 4 ∨ n = 5 ∨ n = 6 ∨ n = 7 := by omega
  rcases this with rfl | rfl | rfl | rfl | rfl | rfl | rfl | rfl
  · exact .inl e
  · exact absurd (t0 (by decide)) (by decide)
  · exact absurd (t1 (by decide)) (by decide)
  · exact absurd (t0 (by decide)) (by decide)
  · exact .inr e
  · exact absurd (t0 (by decide)) (by decide)
  · exact absurd (t1 (by decide)) (by decide)
  · exact absurd (t0 (by decide)) (by decide)

theorem rFlags_any (op : Int) (W : World) : Calls Try.prog 47 #[.int .i64 op] W fun e w' => e = .returned (.int .i64 (flg op)) ∧ W = w' := by
  unfold flg
  go_enter Try.func47, Try.ntmps47
  go_wp2
  all_goals go_ret
  all_goals exact ⟨ret_int (by simp_all), rfl⟩
end Go.Proofs.Ytpjfkmaceaikbaa
