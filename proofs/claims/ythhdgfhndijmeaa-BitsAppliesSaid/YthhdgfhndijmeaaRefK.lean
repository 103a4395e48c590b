/- Contract of the document's answers (package latheref01): flagged. -/
import Derived.Test.YthhdgfhndijmeaaRefJ
namespace Go.Proofs.Ythhdgfhndijmeaa
open Go.RowKit
set_option linter.unusedVariables false
set_option linter.unusedSimpArgs false

set_option maxHeartbeats 2000000 in
theorem flagged_n (op w fl a b A0 A1 B0 B1 V n1 n2 : Int) (A2 B2 f1 f2 : Bool) (W : World) (hw1 : 1 ≤ w) (hw2 : w ≤ 64) (ho : (op == 11) = false)
    (k2 : bits .and .i64 fl 2 = n2) (k1 : bits .and .i64 fl 1 = n1) (hn : n2 = 0 ∨ n2 = 2) (hm : n1 = 0 ∨ n1 = 1)
    (c1 : Makes 45 #[.int .i64 op, .int .i64 w, .int .u64 a, .int .u64 b, .bool false] (.agg #[.int .u64 A0, .int .u64 A1, .bool A2]))
    (c2 : Makes 45 #[.int .i64 op, .int .i64 w, .int .u64 a, .int .u64 b, .bool true] (.agg #[.int .u64 B0, .int .u64 B1, .bool B2]))
    (c3 : Makes 46 #[.int .i64 w, .agg #[.int .u64 A0, .int .u64 A1, .bool A2], .bool false] (.bool f1))
    (c4 : Makes 46 #[.int .i64 w, .agg #[.int .u64 B0, .int .u64 B1, .bool B2], .bool true] (.bool f2))
    (c5 : Makes 36 #[.int .i64 w, .agg #[.int .u64 A0, .int .u64 A1, .bool A2]] (.int .u64 V)) :
    Calls Try.prog 30 #[.int .i64 op, .int .i64 w, .int .i64 fl, .int .u64 a, .int .u64 b] W fun e w' =>
      e = .returned (.tuple #[.int .u64 (if (n2 != 0 && !f1) || (n1 != 0 && !f2) then 0 else V), .int .i64 (if (n2 != 0 && !f1) || (n1 != 0 && !f2) then 1 else 0)]) ∧ Kept W w' := by
  rcases hn with rfl | rfl <;> rcases hm with rfl | rfl <;> cases f1 <;> cases f2
  all_goals
    go_enter Try.func30, Try.ntmps30
    go_wp2_with (first
      | ((with_reducible refine (c1.go _).mono ?_); rintro e w1 ⟨rfl, hb1⟩)
      | ((with_reducible refine (c2.go _).mono ?_); rintro e w2 ⟨rfl, hb2⟩
         have hz2 := ksz hb2
         have M2 := (Blk.new _ _ _ _ _).kept hb2
         obtain ⟨v_s, v_0, v_1, v_2, v_f⟩ := id M2
         have K2 := (hb1.alloc _ _).trans hb2)
      | ((with_reducible refine (c3.go _).mono ?_); rintro e w3 ⟨rfl, hb3⟩
         have M3 := (M2.alloc _ _).kept hb3
         have N3 := (Blk.new _ _ _ _ _).kept hb3
         have K3 := (K2.alloc _ _).trans hb3
         obtain ⟨x_s, x_0, x_1, x_2, x_f⟩ := id M3
         obtain ⟨y_s, y_0, y_1, y_2, y_f⟩ := N3)
      | ((with_reducible refine (c4.go _).mono ?_); rintro e w4 ⟨rfl, hb4⟩
         have M4 := M3.kept hb4
         have K4 := K3.trans hb4
         obtain ⟨z_s, z_0, z_1, z_2, z_f⟩ := M4)
      | ((with_reducible refine (c5.go _).mono ?_); rintro e w5 ⟨rfl, hb5⟩
         have K5 := K4.trans hb5))
    go_ret2
    exact ⟨ret_two rfl rfl, by first | exact K5 | exact K4⟩
set_option maxHeartbeats 2000000 in
theorem flagged_11 (w fl a b A0 A1 B0 B1 V n1 n2 : Int) (A2 B2 f1 f2 : Bool) (W : World) (hw1 : 1 ≤ w) (hw2 : w ≤ 64) (y : Int) (hy0 : 0 ≤ y) (hy : y < w) (c0 : ∀ W, Calls Try.prog 35 #[.int .i64 w, .int .u64 b] W fun e w' => e = .returned (.int .u64 y) ∧ W = w')
    (k2 : bits .and .i64 fl 2 = n2) (k1 : bits .and .i64 fl 1 = n1) (hn : n2 = 0 ∨ n2 = 2) (hm : n1 = 0 ∨ n1 = 1)
    (c1 : Makes 45 #[.int .i64 11, .int .i64 w, .int .u64 a, .int .u64 b, .bool false] (.agg #[.int .u64 A0, .int .u64 A1, .bool A2]))
    (c2 : Makes 45 #[.int .i64 11, .int .i64 w, .int .u64 a, .int .u64 b, .bool true] (.agg #[.int .u64 B0, .int .u64 B1, .bool B2]))
    (c3 : Makes 46 #[.int .i64 w, .agg #[.int .u64 A0, .int .u64 A1, .bool A2], .bool false] (.bool f1))
    (c4 : Makes 46 #[.int .i64 w, .agg #[.int .u64 B0, .int .u64 B1, .bool B2], .bool true] (.bool f2))
    (c5 : Makes 36 #[.int .i64 w, .agg #[.int .u64 A0, .int .u64 A1, .bool A2]] (.int .u64 V)) :
    Calls Try.prog 30 #[.int .i64 11, .int .i64 w, .int .i64 fl, .int .u64 a, .int .u64 b] W fun e w' =>
      e = .returned (.tuple #[.int .u64 (if (n2 != 0 && !f1) || (n1 != 0 && !f2) then 0 else V), .int .i64 (if (n2 != 0 && !f1) || (n1 != 0 && !f2) then 1 else 0)]) ∧ Kept W w' := by
  rcases hn with rfl | rfl <;> rcases hm with rfl | rfl <;> cases f1 <;> cases f2
  all_goals
    go_enter Try.func30, Try.ntmps30
    go_wp2_with (first
      | ((with_reducible refine (c0 _).mono ?_); rintro e w0 ⟨rfl, rfl⟩)
      | ((with_reducible refine (c1.go _).mono ?_); rintro e w1 ⟨rfl, hb1⟩)
      | ((with_reducible refine (c2.go _).mono ?_); rintro e w2 ⟨rfl, hb2⟩
         have hz2 := ksz hb2
         have M2 := (Blk.new _ _ _ _ _).kept hb2
         obtain ⟨v_s, v_0, v_1, v_2, v_f⟩ := id M2
         have K2 := (hb1.alloc _ _).trans hb2)
      | ((with_reducible refine (c3.go _).mono ?_); rintro e w3 ⟨rfl, hb3⟩
         have M3 := (M2.alloc _ _).kept hb3
         have N3 := (Blk.new _ _ _ _ _).kept hb3
         have K3 := (K2.alloc _ _).trans hb3
         obtain ⟨x_s, x_0, x_1, x_2, x_f⟩ := id M3
         obtain ⟨y_s, y_0, y_1, y_2, y_f⟩ := N3)
      | ((with_reducible refine (c4.go _).mono ?_); rintro e w4 ⟨rfl, hb4⟩
         have M4 := M3.kept hb4
         have K4 := K3.trans hb4
         obtain ⟨z_s, z_0, z_1, z_2, z_f⟩ := M4)
      | ((with_reducible refine (c5.go _).mono ?_); rintro e w5 ⟨rfl, hb5⟩
         have K5 := K4.trans hb5))
    go_ret2
    exact ⟨ret_two rfl rfl, by first | exact K5 | exact K4⟩
theorem flagged_over (w fl a b y : Int) (W : World) (hw1 : 1 ≤ w) (hw2 : w ≤ 64) (hy0 : 0 ≤ y) (hy : w ≤ y) (c0 : ∀ W, Calls Try.prog 35 #[.int .i64 w, .int .u64 b] W fun e w' => e = .returned (.int .u64 y) ∧ W = w') :
    Calls Try.prog 30 #[.int .i64 11, .int .i64 w, .int .i64 fl, .int .u64 a, .int .u64 b] W fun e w' => e = .returned (.tuple #[.int .u64 0, .int .i64 1]) ∧ Kept W w' := by
  go_enter Try.func30, Try.ntmps30
  go_wp2_with ((with_reducible refine (c0 _).mono ?_); rintro e w0 ⟨rfl, rfl⟩)
  go_ret2
  exact ⟨ret_two rfl rfl, Kept.refl _⟩
end Go.Proofs.Ythhdgfhndijmeaa
