/- Contract of the document's answers (package latheref01): compared. -/
import Derived.Test.YthhdgfhndijmeaaRefO
namespace Go.Proofs.Ythhdgfhndijmeaa
open Go.RowKit
set_option linter.unusedVariables false
set_option linter.unusedSimpArgs false

theorem build_zero (w : World) : (Instr.build 46 #[]).run Try.prog w = .ok (.agg #[.int .u64 0, .int .u64 0, .bool false]) w := run_build _ _ _ _ (by kernel_rfl)
/-- Is it 0? -/
def zB (a b : Int) (c : Bool) : Bool := a == 0 && (b == 0 && c == false)
set_option maxHeartbeats 4000000 in
theorem compared_14 (w a b P0 P1 Q0 Q1 N0 N1 D0 D1 : Int) (P2 Q2 N2 D2 : Bool) (W : World)
    (c1 : Makes 47 #[.int .i64 w, .int .u64 a] (.agg #[.int .u64 P0, .int .u64 P1, .bool P2]))
    (c2 : Makes 47 #[.int .i64 w, .int .u64 b] (.agg #[.int .u64 Q0, .int .u64 Q1, .bool Q2]))
    (c6 : Makes 52 #[.agg #[.int .u64 Q0, .int .u64 Q1, .bool Q2]] (.agg #[.int .u64 N0, .int .u64 N1, .bool N2]))
    (c5 : Makes 51 #[.agg #[.int .u64 P0, .int .u64 P1, .bool P2], .agg #[.int .u64 N0, .int .u64 N1, .bool N2]] (.agg #[.int .u64 D0, .int .u64 D1, .bool D2])) :
    Calls Try.prog 34 #[.int .i64 14, .int .i64 w, .int .u64 a, .int .u64 b] W fun e w' => e = .returned (.bool (zB D0 D1 D2)) ∧ Kept W w' := by
  have hbu := build_zero
  go_enter Try.func34, Try.ntmps34
  go_upto_region 6 with (first
      | ((with_reducible refine (c1.go _).mono ?_); rintro e w1 ⟨rfl, hb1⟩)
      | ((with_reducible refine (c2.go _).mono ?_); rintro e w2 ⟨rfl, hb2⟩
         have B2 := (Blk.new _ _ _ _ _).kept hb2
         have K2 := (hb1.alloc _ _).trans hb2
         have hz2 := ksz hb2
         have hz1 := hb1.1.size
         obtain ⟨a_s, a_0, a_1, a_2, a_f⟩ := id B2))
  have B := B2.alloc #[.int .u64 Q0, .int .u64 Q1, .bool Q2] 46
  have C := Blk.new w2 (.int .u64 Q0) (.int .u64 Q1) (.bool Q2) 46
  have K := K2.alloc #[.int .u64 Q0, .int .u64 Q1, .bool Q2] 46
  clear B2 K2 a_s a_0 a_1 a_2 a_f
  obtain ⟨gx, hgx⟩ : ∃ gx, gx = w1.heap.size := ⟨_, rfl⟩
  obtain ⟨gy, hgy⟩ : ∃ gy, gy = w2.heap.size := ⟨_, rfl⟩
  rw [← hgx] at B hz1 hz2 ⊢
  rw [← hgy] at C hz2 ⊢
  generalize hwq : w2.alloc (.cells #[.int .u64 Q0, .int .u64 Q1, .bool Q2] 46) = wq at *
  clear hwq hgx hgy hb1 hb2 
  obtain ⟨x_s, x_0, x_1, x_2, x_f⟩ := id B
  obtain ⟨y_s, y_0, y_1, y_2, y_f⟩ := id C
  go_cut [11] (fun s11 wx => ∃ g : Nat, s11 = .pointer (some ⟨g, 0, none⟩) ∧ Blk wx g (.int .u64 D0) (.int .u64 D1) (.bool D2) ∧ Kept W wx)
  case first =>
    go_region_held3 (fun w' => w'.cell? ⟨gx, 0, none⟩ = some (.int .u64 P0) ∧ w'.cell? ⟨gx, 1, none⟩ = some (.int .u64 P1) ∧ w'.cell? ⟨gx, 2, none⟩ = some (.bool P2) ∧ w'.cell? ⟨gy, 0, none⟩ = some (.int .u64 Q0) ∧ w'.cell? ⟨gy, 1, none⟩ = some (.int .u64 Q1) ∧ w'.cell? ⟨gy, 2, none⟩ = some (.bool Q2))
        (((try dsimp only); (repeat' apply And.intro) <;> ((repeat (first | rw [World.cell?_drew] | rw [World.cell?_alloc_past _ _ _ (by first | omega | (simp <;> omega))] | rw [World.cell?_setCell_far _ _ _ _ (by dsimp only; first | omega | (simp <;> omega))])); with_reducible assumption)))
        (first
          | ((with_reducible refine (c6.go _).mono ?_); rintro e w5 ⟨rfl, hb5⟩
             have L5 : Kept wq w5 := Kept.trans (by repeat (first | (with_reducible exact Kept.refl _) | (with_reducible apply Kept.drew) | (with_reducible apply Kept.alloc))) hb5
             have hz5 := L5.1.size
             have B5 := B.kept L5
             have C5 := C.kept L5
             obtain ⟨u_s, u_0, u_1, u_2, u_f⟩ := id B5
             obtain ⟨t_s, t_0, t_1, t_2, t_f⟩ := id C5
             try (obtain ⟨z1_s, z1_0, z1_1, z1_2, z1_f⟩ : Blk w5 wq.heap.size (.int .u64 0) (.int .u64 0) (.bool false)
                  focus (refine Blk.kept ?_ hb5; (repeat (first | (with_reducible apply Blk.new) | (with_reducible apply Blk.newd) | (with_reducible apply Blk.drew) | (with_reducible apply Blk.alloc))); done)
                  have Z1 : Blk w5 wq.heap.size (.int .u64 0) (.int .u64 0) (.bool false) := ⟨z1_s, z1_0, z1_1, z1_2, z1_f⟩))
          | ((with_reducible refine (c5.go _).mono ?_); rintro e w6 ⟨rfl, hb6⟩
             have L6 : Kept w5 w6 := Kept.trans (by repeat (first | (with_reducible exact Kept.refl _) | (with_reducible apply Kept.drew) | (with_reducible apply Kept.alloc))) hb6
             have hz6 := L6.1.size
             have B6 := B5.kept L6
             have C6 := C5.kept L6
             obtain ⟨v_s, v_0, v_1, v_2, v_f⟩ := id B6
             obtain ⟨r_s, r_0, r_1, r_2, r_f⟩ := id C6
             try (obtain ⟨y1_s, y1_0, y1_1, y1_2, y1_f⟩ : Blk w6 wq.heap.size (.int .u64 0) (.int .u64 0) (.bool false)
                  focus (refine Blk.kept ?_ hb6; (repeat (first | (with_reducible exact Z1) | (with_reducible apply Blk.drew) | (with_reducible apply Blk.alloc))); done)
                  have Y1 : Blk w6 wq.heap.size (.int .u64 0) (.int .u64 0) (.bool false) := ⟨y1_s, y1_0, y1_1, y1_2, y1_f⟩)
             try (obtain ⟨y3_s, y3_0, y3_1, y3_2, y3_f⟩ : Blk w6 w5.heap.size (.int .u64 0) (.int .u64 0) (.bool false)
                  focus (refine Blk.kept ?_ hb6; (repeat (first | (with_reducible apply Blk.new) | (with_reducible apply Blk.newd) | (with_reducible apply Blk.drew) | (with_reducible apply Blk.alloc))); done)
                  have Y3 : Blk w6 w5.heap.size (.int .u64 0) (.int .u64 0) (.bool false) := ⟨y3_s, y3_0, y3_1, y3_2, y3_f⟩)))
    all_goals (go_wp2_with fail; go_meet)
    all_goals
      refine ⟨_, rfl, ?_, ?_⟩
    all_goals have KW5 := K.trans L5
    all_goals have KW6 := KW5.trans L6
    all_goals have hzW := K.1.size
    all_goals clear hb5 hb6 L5 L6 B C x_0 x_1 x_2 x_f y_0 y_1 y_2 y_f u_0 u_1 u_2 u_f t_0 t_1 t_2 t_f v_0 v_1 v_2 v_f r_0 r_1 r_2 r_f c1 c2 c5 c6
    all_goals (repeat (first
      | (with_reducible assumption)
      | (with_reducible apply Blk.new) | (with_reducible apply Blk.new2) | (with_reducible apply Blk.new3)
      | (with_reducible apply Blk.set') | (with_reducible apply Blk.far' _ _ _ (by omega)) | (with_reducible apply Blk.alloc)
      | (with_reducible apply Kept.alloc) | (with_reducible apply Kept.drew) | (with_reducible apply Kept.setCell (ha := (by dsimp only; omega)))))
  case rest =>
    obtain ⟨g, rfl, G, KK⟩ := hcut
    obtain ⟨wo, rfl⟩ : ∃ wo : World, wo = wc := ⟨_, rfl⟩
    obtain ⟨g_s, g_0, g_1, g_2, g_f⟩ := id G
    clear B C x_0 x_1 x_2 x_f y_0 y_1 y_2 y_f K c1 c2 c5 c6
    cases D2
    all_goals go_wp2
    all_goals go_ret
    all_goals exact ⟨ret_bool (by first | (simp [zB]; done) | (simp [zB, *]; done) | (simp_all [zB]; done)), KK⟩
set_option maxHeartbeats 4000000 in
theorem compared_15 (w a b P0 P1 Q0 Q1 N0 N1 D0 D1 : Int) (P2 Q2 N2 D2 : Bool) (W : World)
    (c1 : Makes 47 #[.int .i64 w, .int .u64 a] (.agg #[.int .u64 P0, .int .u64 P1, .bool P2]))
    (c2 : Makes 47 #[.int .i64 w, .int .u64 b] (.agg #[.int .u64 Q0, .int .u64 Q1, .bool Q2]))
    (c6 : Makes 52 #[.agg #[.int .u64 Q0, .int .u64 Q1, .bool Q2]] (.agg #[.int .u64 N0, .int .u64 N1, .bool N2]))
    (c5 : Makes 51 #[.agg #[.int .u64 P0, .int .u64 P1, .bool P2], .agg #[.int .u64 N0, .int .u64 N1, .bool N2]] (.agg #[.int .u64 D0, .int .u64 D1, .bool D2])) :
    Calls Try.prog 34 #[.int .i64 15, .int .i64 w, .int .u64 a, .int .u64 b] W fun e w' => e = .returned (.bool (!zB D0 D1 D2)) ∧ Kept W w' := by
  have hbu := build_zero
  go_enter Try.func34, Try.ntmps34
  go_upto_region 6 with (first
      | ((with_reducible refine (c1.go _).mono ?_); rintro e w1 ⟨rfl, hb1⟩)
      | ((with_reducible refine (c2.go _).mono ?_); rintro e w2 ⟨rfl, hb2⟩
         have B2 := (Blk.new _ _ _ _ _).kept hb2
         have K2 := (hb1.alloc _ _).trans hb2
         have hz2 := ksz hb2
         have hz1 := hb1.1.size
         obtain ⟨a_s, a_0, a_1, a_2, a_f⟩ := id B2))
  have B := B2.alloc #[.int .u64 Q0, .int .u64 Q1, .bool Q2] 46
  have C := Blk.new w2 (.int .u64 Q0) (.int .u64 Q1) (.bool Q2) 46
  have K := K2.alloc #[.int .u64 Q0, .int .u64 Q1, .bool Q2] 46
  clear B2 K2 a_s a_0 a_1 a_2 a_f
  obtain ⟨gx, hgx⟩ : ∃ gx, gx = w1.heap.size := ⟨_, rfl⟩
  obtain ⟨gy, hgy⟩ : ∃ gy, gy = w2.heap.size := ⟨_, rfl⟩
  rw [← hgx] at B hz1 hz2 ⊢
  rw [← hgy] at C hz2 ⊢
  generalize hwq : w2.alloc (.cells #[.int .u64 Q0, .int .u64 Q1, .bool Q2] 46) = wq at *
  clear hwq hgx hgy hb1 hb2 
  obtain ⟨x_s, x_0, x_1, x_2, x_f⟩ := id B
  obtain ⟨y_s, y_0, y_1, y_2, y_f⟩ := id C
  go_cut [11] (fun s11 wx => ∃ g : Nat, s11 = .pointer (some ⟨g, 0, none⟩) ∧ Blk wx g (.int .u64 D0) (.int .u64 D1) (.bool D2) ∧ Kept W wx)
  case first =>
    go_region_held3 (fun w' => w'.cell? ⟨gx, 0, none⟩ = some (.int .u64 P0) ∧ w'.cell? ⟨gx, 1, none⟩ = some (.int .u64 P1) ∧ w'.cell? ⟨gx, 2, none⟩ = some (.bool P2) ∧ w'.cell? ⟨gy, 0, none⟩ = some (.int .u64 Q0) ∧ w'.cell? ⟨gy, 1, none⟩ = some (.int .u64 Q1) ∧ w'.cell? ⟨gy, 2, none⟩ = some (.bool Q2))
        (((try dsimp only); (repeat' apply And.intro) <;> ((repeat (first | rw [World.cell?_drew] | rw [World.cell?_alloc_past _ _ _ (by first | omega | (simp <;> omega))] | rw [World.cell?_setCell_far _ _ _ _ (by dsimp only; first | omega | (simp <;> omega))])); with_reducible assumption)))
        (first
          | ((with_reducible refine (c6.go _).mono ?_); rintro e w5 ⟨rfl, hb5⟩
             have L5 : Kept wq w5 := Kept.trans (by repeat (first | (with_reducible exact Kept.refl _) | (with_reducible apply Kept.drew) | (with_reducible apply Kept.alloc))) hb5
             have hz5 := L5.1.size
             have B5 := B.kept L5
             have C5 := C.kept L5
             obtain ⟨u_s, u_0, u_1, u_2, u_f⟩ := id B5
             obtain ⟨t_s, t_0, t_1, t_2, t_f⟩ := id C5
             try (obtain ⟨z1_s, z1_0, z1_1, z1_2, z1_f⟩ : Blk w5 wq.heap.size (.int .u64 0) (.int .u64 0) (.bool false)
                  focus (refine Blk.kept ?_ hb5; (repeat (first | (with_reducible apply Blk.new) | (with_reducible apply Blk.newd) | (with_reducible apply Blk.drew) | (with_reducible apply Blk.alloc))); done)
                  have Z1 : Blk w5 wq.heap.size (.int .u64 0) (.int .u64 0) (.bool false) := ⟨z1_s, z1_0, z1_1, z1_2, z1_f⟩))
          | ((with_reducible refine (c5.go _).mono ?_); rintro e w6 ⟨rfl, hb6⟩
             have L6 : Kept w5 w6 := Kept.trans (by repeat (first | (with_reducible exact Kept.refl _) | (with_reducible apply Kept.drew) | (with_reducible apply Kept.alloc))) hb6
             have hz6 := L6.1.size
             have B6 := B5.kept L6
             have C6 := C5.kept L6
             obtain ⟨v_s, v_0, v_1, v_2, v_f⟩ := id B6
             obtain ⟨r_s, r_0, r_1, r_2, r_f⟩ := id C6
             try (obtain ⟨y1_s, y1_0, y1_1, y1_2, y1_f⟩ : Blk w6 wq.heap.size (.int .u64 0) (.int .u64 0) (.bool false)
                  focus (refine Blk.kept ?_ hb6; (repeat (first | (with_reducible exact Z1) | (with_reducible apply Blk.drew) | (with_reducible apply Blk.alloc))); done)
                  have Y1 : Blk w6 wq.heap.size (.int .u64 0) (.int .u64 0) (.bool false) := ⟨y1_s, y1_0, y1_1, y1_2, y1_f⟩)
             try (obtain ⟨y3_s, y3_0, y3_1, y3_2, y3_f⟩ : Blk w6 w5.heap.size (.int .u64 0) (.int .u64 0) (.bool false)
                  focus (refine Blk.kept ?_ hb6; (repeat (first | (with_reducible apply Blk.new) | (with_reducible apply Blk.newd) | (with_reducible apply Blk.drew) | (with_reducible apply Blk.alloc))); done)
                  have Y3 : Blk w6 w5.heap.size (.int .u64 0) (.int .u64 0) (.bool false) := ⟨y3_s, y3_0, y3_1, y3_2, y3_f⟩)))
    all_goals (go_wp2_with fail; go_meet)
    all_goals
      refine ⟨_, rfl, ?_, ?_⟩
    all_goals have KW5 := K.trans L5
    all_goals have KW6 := KW5.trans L6
    all_goals have hzW := K.1.size
    all_goals clear hb5 hb6 L5 L6 B C x_0 x_1 x_2 x_f y_0 y_1 y_2 y_f u_0 u_1 u_2 u_f t_0 t_1 t_2 t_f v_0 v_1 v_2 v_f r_0 r_1 r_2 r_f c1 c2 c5 c6
    all_goals (repeat (first
      | (with_reducible assumption)
      | (with_reducible apply Blk.new) | (with_reducible apply Blk.new2) | (with_reducible apply Blk.new3)
      | (with_reducible apply Blk.set') | (with_reducible apply Blk.far' _ _ _ (by omega)) | (with_reducible apply Blk.alloc)
      | (with_reducible apply Kept.alloc) | (with_reducible apply Kept.drew) | (with_reducible apply Kept.setCell (ha := (by dsimp only; omega)))))
  case rest =>
    obtain ⟨g, rfl, G, KK⟩ := hcut
    obtain ⟨wo, rfl⟩ : ∃ wo : World, wo = wc := ⟨_, rfl⟩
    obtain ⟨g_s, g_0, g_1, g_2, g_f⟩ := id G
    clear B C x_0 x_1 x_2 x_f y_0 y_1 y_2 y_f K c1 c2 c5 c6
    cases D2
    all_goals go_wp2
    all_goals go_ret
    all_goals exact ⟨ret_bool (by first | (simp [zB]; done) | (simp [zB, *]; done) | (simp_all [zB]; done)), KK⟩
set_option maxHeartbeats 4000000 in
theorem compared_16 (w a b P0 P1 Q0 Q1 N0 N1 D0 D1 : Int) (P2 Q2 N2 D2 : Bool) (W : World)
    (c1 : Makes 47 #[.int .i64 w, .int .u64 a] (.agg #[.int .u64 P0, .int .u64 P1, .bool P2]))
    (c2 : Makes 47 #[.int .i64 w, .int .u64 b] (.agg #[.int .u64 Q0, .int .u64 Q1, .bool Q2]))
    (c6 : Makes 52 #[.agg #[.int .u64 Q0, .int .u64 Q1, .bool Q2]] (.agg #[.int .u64 N0, .int .u64 N1, .bool N2]))
    (c5 : Makes 51 #[.agg #[.int .u64 P0, .int .u64 P1, .bool P2], .agg #[.int .u64 N0, .int .u64 N1, .bool N2]] (.agg #[.int .u64 D0, .int .u64 D1, .bool D2])) :
    Calls Try.prog 34 #[.int .i64 16, .int .i64 w, .int .u64 a, .int .u64 b] W fun e w' => e = .returned (.bool (D2)) ∧ Kept W w' := by
  have hbu := build_zero
  go_enter Try.func34, Try.ntmps34
  go_upto_region 6 with (first
      | ((with_reducible refine (c1.go _).mono ?_); rintro e w1 ⟨rfl, hb1⟩)
      | ((with_reducible refine (c2.go _).mono ?_); rintro e w2 ⟨rfl, hb2⟩
         have B2 := (Blk.new _ _ _ _ _).kept hb2
         have K2 := (hb1.alloc _ _).trans hb2
         have hz2 := ksz hb2
         have hz1 := hb1.1.size
         obtain ⟨a_s, a_0, a_1, a_2, a_f⟩ := id B2))
  have B := B2.alloc #[.int .u64 Q0, .int .u64 Q1, .bool Q2] 46
  have C := Blk.new w2 (.int .u64 Q0) (.int .u64 Q1) (.bool Q2) 46
  have K := K2.alloc #[.int .u64 Q0, .int .u64 Q1, .bool Q2] 46
  clear B2 K2 a_s a_0 a_1 a_2 a_f
  obtain ⟨gx, hgx⟩ : ∃ gx, gx = w1.heap.size := ⟨_, rfl⟩
  obtain ⟨gy, hgy⟩ : ∃ gy, gy = w2.heap.size := ⟨_, rfl⟩
  rw [← hgx] at B hz1 hz2 ⊢
  rw [← hgy] at C hz2 ⊢
  generalize hwq : w2.alloc (.cells #[.int .u64 Q0, .int .u64 Q1, .bool Q2] 46) = wq at *
  clear hwq hgx hgy hb1 hb2 
  obtain ⟨x_s, x_0, x_1, x_2, x_f⟩ := id B
  obtain ⟨y_s, y_0, y_1, y_2, y_f⟩ := id C
  go_cut [11] (fun s11 wx => ∃ g : Nat, s11 = .pointer (some ⟨g, 0, none⟩) ∧ Blk wx g (.int .u64 D0) (.int .u64 D1) (.bool D2) ∧ Kept W wx)
  case first =>
    go_region_held3 (fun w' => w'.cell? ⟨gx, 0, none⟩ = some (.int .u64 P0) ∧ w'.cell? ⟨gx, 1, none⟩ = some (.int .u64 P1) ∧ w'.cell? ⟨gx, 2, none⟩ = some (.bool P2) ∧ w'.cell? ⟨gy, 0, none⟩ = some (.int .u64 Q0) ∧ w'.cell? ⟨gy, 1, none⟩ = some (.int .u64 Q1) ∧ w'.cell? ⟨gy, 2, none⟩ = some (.bool Q2))
        (((try dsimp only); (repeat' apply And.intro) <;> ((repeat (first | rw [World.cell?_drew] | rw [World.cell?_alloc_past _ _ _ (by first | omega | (simp <;> omega))] | rw [World.cell?_setCell_far _ _ _ _ (by dsimp only; first | omega | (simp <;> omega))])); with_reducible assumption)))
        (first
          | ((with_reducible refine (c6.go _).mono ?_); rintro e w5 ⟨rfl, hb5⟩
             have L5 : Kept wq w5 := Kept.trans (by repeat (first | (with_reducible exact Kept.refl _) | (with_reducible apply Kept.drew) | (with_reducible apply Kept.alloc))) hb5
             have hz5 := L5.1.size
             have B5 := B.kept L5
             have C5 := C.kept L5
             obtain ⟨u_s, u_0, u_1, u_2, u_f⟩ := id B5
             obtain ⟨t_s, t_0, t_1, t_2, t_f⟩ := id C5
             try (obtain ⟨z1_s, z1_0, z1_1, z1_2, z1_f⟩ : Blk w5 wq.heap.size (.int .u64 0) (.int .u64 0) (.bool false)
                  focus (refine Blk.kept ?_ hb5; (repeat (first | (with_reducible apply Blk.new) | (with_reducible apply Blk.newd) | (with_reducible apply Blk.drew) | (with_reducible apply Blk.alloc))); done)
                  have Z1 : Blk w5 wq.heap.size (.int .u64 0) (.int .u64 0) (.bool false) := ⟨z1_s, z1_0, z1_1, z1_2, z1_f⟩))
          | ((with_reducible refine (c5.go _).mono ?_); rintro e w6 ⟨rfl, hb6⟩
             have L6 : Kept w5 w6 := Kept.trans (by repeat (first | (with_reducible exact Kept.refl _) | (with_reducible apply Kept.drew) | (with_reducible apply Kept.alloc))) hb6
             have hz6 := L6.1.size
             have B6 := B5.kept L6
             have C6 := C5.kept L6
             obtain ⟨v_s, v_0, v_1, v_2, v_f⟩ := id B6
             obtain ⟨r_s, r_0, r_1, r_2, r_f⟩ := id C6
             try (obtain ⟨y1_s, y1_0, y1_1, y1_2, y1_f⟩ : Blk w6 wq.heap.size (.int .u64 0) (.int .u64 0) (.bool false)
                  focus (refine Blk.kept ?_ hb6; (repeat (first | (with_reducible exact Z1) | (with_reducible apply Blk.drew) | (with_reducible apply Blk.alloc))); done)
                  have Y1 : Blk w6 wq.heap.size (.int .u64 0) (.int .u64 0) (.bool false) := ⟨y1_s, y1_0, y1_1, y1_2, y1_f⟩)
             try (obtain ⟨y3_s, y3_0, y3_1, y3_2, y3_f⟩ : Blk w6 w5.heap.size (.int .u64 0) (.int .u64 0) (.bool false)
                  focus (refine Blk.kept ?_ hb6; (repeat (first | (with_reducible apply Blk.new) | (with_reducible apply Blk.newd) | (with_reducible apply Blk.drew) | (with_reducible apply Blk.alloc))); done)
                  have Y3 : Blk w6 w5.heap.size (.int .u64 0) (.int .u64 0) (.bool false) := ⟨y3_s, y3_0, y3_1, y3_2, y3_f⟩)))
    all_goals (go_wp2_with fail; go_meet)
    all_goals
      refine ⟨_, rfl, ?_, ?_⟩
    all_goals have KW5 := K.trans L5
    all_goals have KW6 := KW5.trans L6
    all_goals have hzW := K.1.size
    all_goals clear hb5 hb6 L5 L6 B C x_0 x_1 x_2 x_f y_0 y_1 y_2 y_f u_0 u_1 u_2 u_f t_0 t_1 t_2 t_f v_0 v_1 v_2 v_f r_0 r_1 r_2 r_f c1 c2 c5 c6
    all_goals (repeat (first
      | (with_reducible assumption)
      | (with_reducible apply Blk.new) | (with_reducible apply Blk.new2) | (with_reducible apply Blk.new3)
      | (with_reducible apply Blk.set') | (with_reducible apply Blk.far' _ _ _ (by omega)) | (with_reducible apply Blk.alloc)
      | (with_reducible apply Kept.alloc) | (with_reducible apply Kept.drew) | (with_reducible apply Kept.setCell (ha := (by dsimp only; omega)))))
  case rest =>
    obtain ⟨g, rfl, G, KK⟩ := hcut
    obtain ⟨wo, rfl⟩ : ∃ wo : World, wo = wc := ⟨_, rfl⟩
    obtain ⟨g_s, g_0, g_1, g_2, g_f⟩ := id G
    clear B C x_0 x_1 x_2 x_f y_0 y_1 y_2 y_f K c1 c2 c5 c6
    cases D2
    all_goals go_wp2
    all_goals go_ret
    all_goals exact ⟨ret_bool (by first | (simp [zB]; done) | (simp [zB, *]; done) | (simp_all [zB]; done)), KK⟩
set_option maxHeartbeats 4000000 in
theorem compared_17 (w a b P0 P1 Q0 Q1 N0 N1 D0 D1 : Int) (P2 Q2 N2 D2 : Bool) (W : World)
    (c1 : Makes 47 #[.int .i64 w, .int .u64 a] (.agg #[.int .u64 P0, .int .u64 P1, .bool P2]))
    (c2 : Makes 47 #[.int .i64 w, .int .u64 b] (.agg #[.int .u64 Q0, .int .u64 Q1, .bool Q2]))
    (c6 : Makes 52 #[.agg #[.int .u64 Q0, .int .u64 Q1, .bool Q2]] (.agg #[.int .u64 N0, .int .u64 N1, .bool N2]))
    (c5 : Makes 51 #[.agg #[.int .u64 P0, .int .u64 P1, .bool P2], .agg #[.int .u64 N0, .int .u64 N1, .bool N2]] (.agg #[.int .u64 D0, .int .u64 D1, .bool D2])) :
    Calls Try.prog 34 #[.int .i64 17, .int .i64 w, .int .u64 a, .int .u64 b] W fun e w' => e = .returned (.bool (D2 || zB D0 D1 D2)) ∧ Kept W w' := by
  have hbu := build_zero
  go_enter Try.func34, Try.ntmps34
  go_upto_region 6 with (first
      | ((with_reducible refine (c1.go _).mono ?_); rintro e w1 ⟨rfl, hb1⟩)
      | ((with_reducible refine (c2.go _).mono ?_); rintro e w2 ⟨rfl, hb2⟩
         have B2 := (Blk.new _ _ _ _ _).kept hb2
         have K2 := (hb1.alloc _ _).trans hb2
         have hz2 := ksz hb2
         have hz1 := hb1.1.size
         obtain ⟨a_s, a_0, a_1, a_2, a_f⟩ := id B2))
  have B := B2.alloc #[.int .u64 Q0, .int .u64 Q1, .bool Q2] 46
  have C := Blk.new w2 (.int .u64 Q0) (.int .u64 Q1) (.bool Q2) 46
  have K := K2.alloc #[.int .u64 Q0, .int .u64 Q1, .bool Q2] 46
  clear B2 K2 a_s a_0 a_1 a_2 a_f
  obtain ⟨gx, hgx⟩ : ∃ gx, gx = w1.heap.size := ⟨_, rfl⟩
  obtain ⟨gy, hgy⟩ : ∃ gy, gy = w2.heap.size := ⟨_, rfl⟩
  rw [← hgx] at B hz1 hz2 ⊢
  rw [← hgy] at C hz2 ⊢
  generalize hwq : w2.alloc (.cells #[.int .u64 Q0, .int .u64 Q1, .bool Q2] 46) = wq at *
  clear hwq hgx hgy hb1 hb2 
  obtain ⟨x_s, x_0, x_1, x_2, x_f⟩ := id B
  obtain ⟨y_s, y_0, y_1, y_2, y_f⟩ := id C
  go_cut [11] (fun s11 wx => ∃ g : Nat, s11 = .pointer (some ⟨g, 0, none⟩) ∧ Blk wx g (.int .u64 D0) (.int .u64 D1) (.bool D2) ∧ Kept W wx)
  case first =>
    go_region_held3 (fun w' => w'.cell? ⟨gx, 0, none⟩ = some (.int .u64 P0) ∧ w'.cell? ⟨gx, 1, none⟩ = some (.int .u64 P1) ∧ w'.cell? ⟨gx, 2, none⟩ = some (.bool P2) ∧ w'.cell? ⟨gy, 0, none⟩ = some (.int .u64 Q0) ∧ w'.cell? ⟨gy, 1, none⟩ = some (.int .u64 Q1) ∧ w'.cell? ⟨gy, 2, none⟩ = some (.bool Q2))
        (((try dsimp only); (repeat' apply And.intro) <;> ((repeat (first | rw [World.cell?_drew] | rw [World.cell?_alloc_past _ _ _ (by first | omega | (simp <;> omega))] | rw [World.cell?_setCell_far _ _ _ _ (by dsimp only; first | omega | (simp <;> omega))])); with_reducible assumption)))
        (first
          | ((with_reducible refine (c6.go _).mono ?_); rintro e w5 ⟨rfl, hb5⟩
             have L5 : Kept wq w5 := Kept.trans (by repeat (first | (with_reducible exact Kept.refl _) | (with_reducible apply Kept.drew) | (with_reducible apply Kept.alloc))) hb5
             have hz5 := L5.1.size
             have B5 := B.kept L5
             have C5 := C.kept L5
             obtain ⟨u_s, u_0, u_1, u_2, u_f⟩ := id B5
             obtain ⟨t_s, t_0, t_1, t_2, t_f⟩ := id C5
             try (obtain ⟨z1_s, z1_0, z1_1, z1_2, z1_f⟩ : Blk w5 wq.heap.size (.int .u64 0) (.int .u64 0) (.bool false)
                  focus (refine Blk.kept ?_ hb5; (repeat (first | (with_reducible apply Blk.new) | (with_reducible apply Blk.newd) | (with_reducible apply Blk.drew) | (with_reducible apply Blk.alloc))); done)
                  have Z1 : Blk w5 wq.heap.size (.int .u64 0) (.int .u64 0) (.bool false) := ⟨z1_s, z1_0, z1_1, z1_2, z1_f⟩))
          | ((with_reducible refine (c5.go _).mono ?_); rintro e w6 ⟨rfl, hb6⟩
             have L6 : Kept w5 w6 := Kept.trans (by repeat (first | (with_reducible exact Kept.refl _) | (with_reducible apply Kept.drew) | (with_reducible apply Kept.alloc))) hb6
             have hz6 := L6.1.size
             have B6 := B5.kept L6
             have C6 := C5.kept L6
             obtain ⟨v_s, v_0, v_1, v_2, v_f⟩ := id B6
             obtain ⟨r_s, r_0, r_1, r_2, r_f⟩ := id C6
             try (obtain ⟨y1_s, y1_0, y1_1, y1_2, y1_f⟩ : Blk w6 wq.heap.size (.int .u64 0) (.int .u64 0) (.bool false)
                  focus (refine Blk.kept ?_ hb6; (repeat (first | (with_reducible exact Z1) | (with_reducible apply Blk.drew) | (with_reducible apply Blk.alloc))); done)
                  have Y1 : Blk w6 wq.heap.size (.int .u64 0) (.int .u64 0) (.bool false) := ⟨y1_s, y1_0, y1_1, y1_2, y1_f⟩)
             try (obtain ⟨y3_s, y3_0, y3_1, y3_2, y3_f⟩ : Blk w6 w5.heap.size (.int .u64 0) (.int .u64 0) (.bool false)
                  focus (refine Blk.kept ?_ hb6; (repeat (first | (with_reducible apply Blk.new) | (with_reducible apply Blk.newd) | (with_reducible apply Blk.drew) | (with_reducible apply Blk.alloc))); done)
                  have Y3 : Blk w6 w5.heap.size (.int .u64 0) (.int .u64 0) (.bool false) := ⟨y3_s, y3_0, y3_1, y3_2, y3_f⟩)))
    all_goals (go_wp2_with fail; go_meet)
    all_goals
      refine ⟨_, rfl, ?_, ?_⟩
    all_goals have KW5 := K.trans L5
    all_goals have KW6 := KW5.trans L6
    all_goals have hzW := K.1.size
    all_goals clear hb5 hb6 L5 L6 B C x_0 x_1 x_2 x_f y_0 y_1 y_2 y_f u_0 u_1 u_2 u_f t_0 t_1 t_2 t_f v_0 v_1 v_2 v_f r_0 r_1 r_2 r_f c1 c2 c5 c6
    all_goals (repeat (first
      | (with_reducible assumption)
      | (with_reducible apply Blk.new) | (with_reducible apply Blk.new2) | (with_reducible apply Blk.new3)
      | (with_reducible apply Blk.set') | (with_reducible apply Blk.far' _ _ _ (by omega)) | (with_reducible apply Blk.alloc)
      | (with_reducible apply Kept.alloc) | (with_reducible apply Kept.drew) | (with_reducible apply Kept.setCell (ha := (by dsimp only; omega)))))
  case rest =>
    obtain ⟨g, rfl, G, KK⟩ := hcut
    obtain ⟨wo, rfl⟩ : ∃ wo : World, wo = wc := ⟨_, rfl⟩
    obtain ⟨g_s, g_0, g_1, g_2, g_f⟩ := id G
    clear B C x_0 x_1 x_2 x_f y_0 y_1 y_2 y_f K c1 c2 c5 c6
    cases D2
    all_goals go_wp2
    all_goals go_ret
    all_goals exact ⟨ret_bool (by first | (simp [zB]; done) | (simp [zB, *]; done) | (simp_all [zB]; done)), KK⟩
set_option maxHeartbeats 4000000 in
theorem compared_18 (w a b P0 P1 Q0 Q1 X0 X1 Y0 Y1 N0 N1 D0 D1 : Int) (P2 Q2 X2 Y2 N2 D2 : Bool) (W : World)
    (c1 : Makes 47 #[.int .i64 w, .int .u64 a] (.agg #[.int .u64 P0, .int .u64 P1, .bool P2]))
    (c2 : Makes 47 #[.int .i64 w, .int .u64 b] (.agg #[.int .u64 Q0, .int .u64 Q1, .bool Q2]))
    (c3 : Makes 37 #[.int .i64 w, .int .u64 a] (.agg #[.int .u64 X0, .int .u64 X1, .bool X2]))
    (c4 : Makes 37 #[.int .i64 w, .int .u64 b] (.agg #[.int .u64 Y0, .int .u64 Y1, .bool Y2]))
    (c6 : Makes 52 #[.agg #[.int .u64 Y0, .int .u64 Y1, .bool Y2]] (.agg #[.int .u64 N0, .int .u64 N1, .bool N2]))
    (c5 : Makes 51 #[.agg #[.int .u64 X0, .int .u64 X1, .bool X2], .agg #[.int .u64 N0, .int .u64 N1, .bool N2]] (.agg #[.int .u64 D0, .int .u64 D1, .bool D2])) :
    Calls Try.prog 34 #[.int .i64 18, .int .i64 w, .int .u64 a, .int .u64 b] W fun e w' => e = .returned (.bool (D2)) ∧ Kept W w' := by
  have hbu := build_zero
  go_enter Try.func34, Try.ntmps34
  go_upto_region 6 with (first
      | ((with_reducible refine (c1.go _).mono ?_); rintro e w1 ⟨rfl, hb1⟩)
      | ((with_reducible refine (c2.go _).mono ?_); rintro e w2 ⟨rfl, hb2⟩
         have B2 := (Blk.new _ _ _ _ _).kept hb2
         have K2 := (hb1.alloc _ _).trans hb2
         have hz2 := ksz hb2
         have hz1 := hb1.1.size
         obtain ⟨a_s, a_0, a_1, a_2, a_f⟩ := id B2)
      | ((with_reducible refine (c3.go _).mono ?_); rintro e w3 ⟨rfl, hb3⟩
         have E3 := (B2.alloc _ _).kept hb3
         have F3 := (Blk.new _ _ _ _ _).kept hb3
         have K3 := (K2.alloc _ _).trans hb3
         obtain ⟨b_s, b_0, b_1, b_2, b_f⟩ := id E3)
      | ((with_reducible refine (c4.go _).mono ?_); rintro e w4 ⟨rfl, hb4⟩
         have E4 := (E3.set _ _ _).kept hb4
         have F4 := (F3.far (k := w1.heap.size) (by omega) _ _ _).kept hb4
         have K4 := (K3.set3 (g := w1.heap.size) (by omega) _ _ _).trans hb4
         obtain ⟨d_s, d_0, d_1, d_2, d_f⟩ := id F4))
  have B := E4.far (k := w2.heap.size) (by omega) (.int .u64 Y0) (.int .u64 Y1) (.bool Y2)
  have C := F4.set (.int .u64 Y0) (.int .u64 Y1) (.bool Y2)
  have K := K4.set3 (g := w2.heap.size) (by omega) (.int .u64 Y0) (.int .u64 Y1) (.bool Y2)
  unfold set3 at B C K
  clear B2 K2 E3 F3 K3 E4 F4 K4 a_s a_0 a_1 a_2 a_f b_s b_0 b_1 b_2 b_f d_s d_0 d_1 d_2 d_f
  obtain ⟨gx, hgx⟩ : ∃ gx, gx = w1.heap.size := ⟨_, rfl⟩
  obtain ⟨gy, hgy⟩ : ∃ gy, gy = w2.heap.size := ⟨_, rfl⟩
  rw [← hgx] at B hz1 hz2 ⊢
  rw [← hgy] at C hz2 ⊢
  try rw [← hgy] at B
  try rw [← hgx] at C
  try rw [← hgy] at K
  generalize hwq : ((w4.setCell ⟨gy, 0, none⟩ (.int .u64 Y0)).setCell ⟨gy, 1, none⟩ (.int .u64 Y1)).setCell ⟨gy, 2, none⟩ (.bool Y2) = wq at *
  clear hwq hgx hgy hb1 hb2 hb3 hb4 
  obtain ⟨x_s, x_0, x_1, x_2, x_f⟩ := id B
  obtain ⟨y_s, y_0, y_1, y_2, y_f⟩ := id C
  go_cut [11] (fun s11 wx => ∃ g : Nat, s11 = .pointer (some ⟨g, 0, none⟩) ∧ Blk wx g (.int .u64 D0) (.int .u64 D1) (.bool D2) ∧ Kept W wx)
  case first =>
    go_region_held3 (fun w' => w'.cell? ⟨gx, 0, none⟩ = some (.int .u64 X0) ∧ w'.cell? ⟨gx, 1, none⟩ = some (.int .u64 X1) ∧ w'.cell? ⟨gx, 2, none⟩ = some (.bool X2) ∧ w'.cell? ⟨gy, 0, none⟩ = some (.int .u64 Y0) ∧ w'.cell? ⟨gy, 1, none⟩ = some (.int .u64 Y1) ∧ w'.cell? ⟨gy, 2, none⟩ = some (.bool Y2))
        (((try dsimp only); (repeat' apply And.intro) <;> ((repeat (first | rw [World.cell?_drew] | rw [World.cell?_alloc_past _ _ _ (by first | omega | (simp <;> omega))] | rw [World.cell?_setCell_far _ _ _ _ (by dsimp only; first | omega | (simp <;> omega))])); with_reducible assumption)))
        (first
          | ((with_reducible refine (c6.go _).mono ?_); rintro e w5 ⟨rfl, hb5⟩
             have L5 : Kept wq w5 := Kept.trans (by repeat (first | (with_reducible exact Kept.refl _) | (with_reducible apply Kept.drew) | (with_reducible apply Kept.alloc))) hb5
             have hz5 := L5.1.size
             have B5 := B.kept L5
             have C5 := C.kept L5
             obtain ⟨u_s, u_0, u_1, u_2, u_f⟩ := id B5
             obtain ⟨t_s, t_0, t_1, t_2, t_f⟩ := id C5
             try (obtain ⟨z1_s, z1_0, z1_1, z1_2, z1_f⟩ : Blk w5 wq.heap.size (.int .u64 0) (.int .u64 0) (.bool false)
                  focus (refine Blk.kept ?_ hb5; (repeat (first | (with_reducible apply Blk.new) | (with_reducible apply Blk.newd) | (with_reducible apply Blk.drew) | (with_reducible apply Blk.alloc))); done)
                  have Z1 : Blk w5 wq.heap.size (.int .u64 0) (.int .u64 0) (.bool false) := ⟨z1_s, z1_0, z1_1, z1_2, z1_f⟩))
          | ((with_reducible refine (c5.go _).mono ?_); rintro e w6 ⟨rfl, hb6⟩
             have L6 : Kept w5 w6 := Kept.trans (by repeat (first | (with_reducible exact Kept.refl _) | (with_reducible apply Kept.drew) | (with_reducible apply Kept.alloc))) hb6
             have hz6 := L6.1.size
             have B6 := B5.kept L6
             have C6 := C5.kept L6
             obtain ⟨v_s, v_0, v_1, v_2, v_f⟩ := id B6
             obtain ⟨r_s, r_0, r_1, r_2, r_f⟩ := id C6
             try (obtain ⟨y1_s, y1_0, y1_1, y1_2, y1_f⟩ : Blk w6 wq.heap.size (.int .u64 0) (.int .u64 0) (.bool false)
                  focus (refine Blk.kept ?_ hb6; (repeat (first | (with_reducible exact Z1) | (with_reducible apply Blk.drew) | (with_reducible apply Blk.alloc))); done)
                  have Y1 : Blk w6 wq.heap.size (.int .u64 0) (.int .u64 0) (.bool false) := ⟨y1_s, y1_0, y1_1, y1_2, y1_f⟩)
             try (obtain ⟨y3_s, y3_0, y3_1, y3_2, y3_f⟩ : Blk w6 w5.heap.size (.int .u64 0) (.int .u64 0) (.bool false)
                  focus (refine Blk.kept ?_ hb6; (repeat (first | (with_reducible apply Blk.new) | (with_reducible apply Blk.newd) | (with_reducible apply Blk.drew) | (with_reducible apply Blk.alloc))); done)
                  have Y3 : Blk w6 w5.heap.size (.int .u64 0) (.int .u64 0) (.bool false) := ⟨y3_s, y3_0, y3_1, y3_2, y3_f⟩)))
    all_goals (go_wp2_with fail; go_meet)
    all_goals
      refine ⟨_, rfl, ?_, ?_⟩
    all_goals have KW5 := K.trans L5
    all_goals have KW6 := KW5.trans L6
    all_goals have hzW := K.1.size
    all_goals clear hb5 hb6 L5 L6 B C x_0 x_1 x_2 x_f y_0 y_1 y_2 y_f u_0 u_1 u_2 u_f t_0 t_1 t_2 t_f v_0 v_1 v_2 v_f r_0 r_1 r_2 r_f c1 c2 c5 c6
    all_goals (repeat (first
      | (with_reducible assumption)
      | (with_reducible apply Blk.new) | (with_reducible apply Blk.new2) | (with_reducible apply Blk.new3)
      | (with_reducible apply Blk.set') | (with_reducible apply Blk.far' _ _ _ (by omega)) | (with_reducible apply Blk.alloc)
      | (with_reducible apply Kept.alloc) | (with_reducible apply Kept.drew) | (with_reducible apply Kept.setCell (ha := (by dsimp only; omega)))))
  case rest =>
    obtain ⟨g, rfl, G, KK⟩ := hcut
    obtain ⟨wo, rfl⟩ : ∃ wo : World, wo = wc := ⟨_, rfl⟩
    obtain ⟨g_s, g_0, g_1, g_2, g_f⟩ := id G
    clear B C x_0 x_1 x_2 x_f y_0 y_1 y_2 y_f K c1 c2 c5 c6
    cases D2
    all_goals go_wp2
    all_goals go_ret
    all_goals exact ⟨ret_bool (by first | (simp [zB]; done) | (simp [zB, *]; done) | (simp_all [zB]; done)), KK⟩
set_option maxHeartbeats 4000000 in
theorem compared_19 (w a b P0 P1 Q0 Q1 X0 X1 Y0 Y1 N0 N1 D0 D1 : Int) (P2 Q2 X2 Y2 N2 D2 : Bool) (W : World)
    (c1 : Makes 47 #[.int .i64 w, .int .u64 a] (.agg #[.int .u64 P0, .int .u64 P1, .bool P2]))
    (c2 : Makes 47 #[.int .i64 w, .int .u64 b] (.agg #[.int .u64 Q0, .int .u64 Q1, .bool Q2]))
    (c3 : Makes 37 #[.int .i64 w, .int .u64 a] (.agg #[.int .u64 X0, .int .u64 X1, .bool X2]))
    (c4 : Makes 37 #[.int .i64 w, .int .u64 b] (.agg #[.int .u64 Y0, .int .u64 Y1, .bool Y2]))
    (c6 : Makes 52 #[.agg #[.int .u64 Y0, .int .u64 Y1, .bool Y2]] (.agg #[.int .u64 N0, .int .u64 N1, .bool N2]))
    (c5 : Makes 51 #[.agg #[.int .u64 X0, .int .u64 X1, .bool X2], .agg #[.int .u64 N0, .int .u64 N1, .bool N2]] (.agg #[.int .u64 D0, .int .u64 D1, .bool D2])) :
    Calls Try.prog 34 #[.int .i64 19, .int .i64 w, .int .u64 a, .int .u64 b] W fun e w' => e = .returned (.bool (D2 || zB D0 D1 D2)) ∧ Kept W w' := by
  have hbu := build_zero
  go_enter Try.func34, Try.ntmps34
  go_upto_region 6 with (first
      | ((with_reducible refine (c1.go _).mono ?_); rintro e w1 ⟨rfl, hb1⟩)
      | ((with_reducible refine (c2.go _).mono ?_); rintro e w2 ⟨rfl, hb2⟩
         have B2 := (Blk.new _ _ _ _ _).kept hb2
         have K2 := (hb1.alloc _ _).trans hb2
         have hz2 := ksz hb2
         have hz1 := hb1.1.size
         obtain ⟨a_s, a_0, a_1, a_2, a_f⟩ := id B2)
      | ((with_reducible refine (c3.go _).mono ?_); rintro e w3 ⟨rfl, hb3⟩
         have E3 := (B2.alloc _ _).kept hb3
         have F3 := (Blk.new _ _ _ _ _).kept hb3
         have K3 := (K2.alloc _ _).trans hb3
         obtain ⟨b_s, b_0, b_1, b_2, b_f⟩ := id E3)
      | ((with_reducible refine (c4.go _).mono ?_); rintro e w4 ⟨rfl, hb4⟩
         have E4 := (E3.set _ _ _).kept hb4
         have F4 := (F3.far (k := w1.heap.size) (by omega) _ _ _).kept hb4
         have K4 := (K3.set3 (g := w1.heap.size) (by omega) _ _ _).trans hb4
         obtain ⟨d_s, d_0, d_1, d_2, d_f⟩ := id F4))
  have B := E4.far (k := w2.heap.size) (by omega) (.int .u64 Y0) (.int .u64 Y1) (.bool Y2)
  have C := F4.set (.int .u64 Y0) (.int .u64 Y1) (.bool Y2)
  have K := K4.set3 (g := w2.heap.size) (by omega) (.int .u64 Y0) (.int .u64 Y1) (.bool Y2)
  unfold set3 at B C K
  clear B2 K2 E3 F3 K3 E4 F4 K4 a_s a_0 a_1 a_2 a_f b_s b_0 b_1 b_2 b_f d_s d_0 d_1 d_2 d_f
  obtain ⟨gx, hgx⟩ : ∃ gx, gx = w1.heap.size := ⟨_, rfl⟩
  obtain ⟨gy, hgy⟩ : ∃ gy, gy = w2.heap.size := ⟨_, rfl⟩
  rw [← hgx] at B hz1 hz2 ⊢
  rw [← hgy] at C hz2 ⊢
  try rw [← hgy] at B
  try rw [← hgx] at C
  try rw [← hgy] at K
  generalize hwq : ((w4.setCell ⟨gy, 0, none⟩ (.int .u64 Y0)).setCell ⟨gy, 1, none⟩ (.int .u64 Y1)).setCell ⟨gy, 2, none⟩ (.bool Y2) = wq at *
  clear hwq hgx hgy hb1 hb2 hb3 hb4 
  obtain ⟨x_s, x_0, x_1, x_2, x_f⟩ := id B
  obtain ⟨y_s, y_0, y_1, y_2, y_f⟩ := id C
  go_cut [11] (fun s11 wx => ∃ g : Nat, s11 = .pointer (some ⟨g, 0, none⟩) ∧ Blk wx g (.int .u64 D0) (.int .u64 D1) (.bool D2) ∧ Kept W wx)
  case first =>
    go_region_held3 (fun w' => w'.cell? ⟨gx, 0, none⟩ = some (.int .u64 X0) ∧ w'.cell? ⟨gx, 1, none⟩ = some (.int .u64 X1) ∧ w'.cell? ⟨gx, 2, none⟩ = some (.bool X2) ∧ w'.cell? ⟨gy, 0, none⟩ = some (.int .u64 Y0) ∧ w'.cell? ⟨gy, 1, none⟩ = some (.int .u64 Y1) ∧ w'.cell? ⟨gy, 2, none⟩ = some (.bool Y2))
        (((try dsimp only); (repeat' apply And.intro) <;> ((repeat (first | rw [World.cell?_drew] | rw [World.cell?_alloc_past _ _ _ (by first | omega | (simp <;> omega))] | rw [World.cell?_setCell_far _ _ _ _ (by dsimp only; first | omega | (simp <;> omega))])); with_reducible assumption)))
        (first
          | ((with_reducible refine (c6.go _).mono ?_); rintro e w5 ⟨rfl, hb5⟩
             have L5 : Kept wq w5 := Kept.trans (by repeat (first | (with_reducible exact Kept.refl _) | (with_reducible apply Kept.drew) | (with_reducible apply Kept.alloc))) hb5
             have hz5 := L5.1.size
             have B5 := B.kept L5
             have C5 := C.kept L5
             obtain ⟨u_s, u_0, u_1, u_2, u_f⟩ := id B5
             obtain ⟨t_s, t_0, t_1, t_2, t_f⟩ := id C5
             try (obtain ⟨z1_s, z1_0, z1_1, z1_2, z1_f⟩ : Blk w5 wq.heap.size (.int .u64 0) (.int .u64 0) (.bool false)
                  focus (refine Blk.kept ?_ hb5; (repeat (first | (with_reducible apply Blk.new) | (with_reducible apply Blk.newd) | (with_reducible apply Blk.drew) | (with_reducible apply Blk.alloc))); done)
                  have Z1 : Blk w5 wq.heap.size (.int .u64 0) (.int .u64 0) (.bool false) := ⟨z1_s, z1_0, z1_1, z1_2, z1_f⟩))
          | ((with_reducible refine (c5.go _).mono ?_); rintro e w6 ⟨rfl, hb6⟩
             have L6 : Kept w5 w6 := Kept.trans (by repeat (first | (with_reducible exact Kept.refl _) | (with_reducible apply Kept.drew) | (with_reducible apply Kept.alloc))) hb6
             have hz6 := L6.1.size
             have B6 := B5.kept L6
             have C6 := C5.kept L6
             obtain ⟨v_s, v_0, v_1, v_2, v_f⟩ := id B6
             obtain ⟨r_s, r_0, r_1, r_2, r_f⟩ := id C6
             try (obtain ⟨y1_s, y1_0, y1_1, y1_2, y1_f⟩ : Blk w6 wq.heap.size (.int .u64 0) (.int .u64 0) (.bool false)
                  focus (refine Blk.kept ?_ hb6; (repeat (first | (with_reducible exact Z1) | (with_reducible apply Blk.drew) | (with_reducible apply Blk.alloc))); done)
                  have Y1 : Blk w6 wq.heap.size (.int .u64 0) (.int .u64 0) (.bool false) := ⟨y1_s, y1_0, y1_1, y1_2, y1_f⟩)
             try (obtain ⟨y3_s, y3_0, y3_1, y3_2, y3_f⟩ : Blk w6 w5.heap.size (.int .u64 0) (.int .u64 0) (.bool false)
                  focus (refine Blk.kept ?_ hb6; (repeat (first | (with_reducible apply Blk.new) | (with_reducible apply Blk.newd) | (with_reducible apply Blk.drew) | (with_reducible apply Blk.alloc))); done)
                  have Y3 : Blk w6 w5.heap.size (.int .u64 0) (.int .u64 0) (.bool false) := ⟨y3_s, y3_0, y3_1, y3_2, y3_f⟩)))
    all_goals (go_wp2_with fail; go_meet)
    all_goals
      refine ⟨_, rfl, ?_, ?_⟩
    all_goals have KW5 := K.trans L5
    all_goals have KW6 := KW5.trans L6
    all_goals have hzW := K.1.size
    all_goals clear hb5 hb6 L5 L6 B C x_0 x_1 x_2 x_f y_0 y_1 y_2 y_f u_0 u_1 u_2 u_f t_0 t_1 t_2 t_f v_0 v_1 v_2 v_f r_0 r_1 r_2 r_f c1 c2 c5 c6
    all_goals (repeat (first
      | (with_reducible assumption)
      | (with_reducible apply Blk.new) | (with_reducible apply Blk.new2) | (with_reducible apply Blk.new3)
      | (with_reducible apply Blk.set') | (with_reducible apply Blk.far' _ _ _ (by omega)) | (with_reducible apply Blk.alloc)
      | (with_reducible apply Kept.alloc) | (with_reducible apply Kept.drew) | (with_reducible apply Kept.setCell (ha := (by dsimp only; omega)))))
  case rest =>
    obtain ⟨g, rfl, G, KK⟩ := hcut
    obtain ⟨wo, rfl⟩ : ∃ wo : World, wo = wc := ⟨_, rfl⟩
    obtain ⟨g_s, g_0, g_1, g_2, g_f⟩ := id G
    clear B C x_0 x_1 x_2 x_f y_0 y_1 y_2 y_f K c1 c2 c5 c6
    cases D2
    all_goals go_wp2
    all_goals go_ret
    all_goals exact ⟨ret_bool (by first | (simp [zB]; done) | (simp [zB, *]; done) | (simp_all [zB]; done)), KK⟩
end Go.Proofs.Ythhdgfhndijmeaa
