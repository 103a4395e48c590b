/- Contract of the document's answers (package latheref01): divided. -/
import Derived.Test.YthhdgfhndijmeaaRefL
namespace Go.Proofs.Ythhdgfhndijmeaa
open Go.RowKit
set_option linter.unusedVariables false
set_option linter.unusedSimpArgs false

theorem Blk.new2 (w : World) (c : Array Value) (t : TypeId) (A B C : Value) (t' : TypeId) : Blk ((w.alloc (.cells c t)).alloc (.cells #[A, B, C] t')) (w.heap.size + 1) A B C := by
  have h := Blk.new (w.alloc (.cells c t)) A B C t'
  have e : (w.alloc (.cells c t)).heap.size = w.heap.size + 1 := by simp
  rwa [e] at h
theorem divided_zero (op w fl a b : Int) (W : World) (c0 : ∀ W, Calls Try.prog 35 #[.int .i64 w, .int .u64 b] W fun e w' => e = .returned (.int .u64 0) ∧ W = w') :
    Calls Try.prog 31 #[.int .i64 op, .int .i64 w, .int .i64 fl, .int .u64 a, .int .u64 b] W fun e w' => e = .returned (.tuple #[.int .u64 0, .int .i64 2]) ∧ Kept W w' := by
  go_enter Try.func31, Try.ntmps31
  go_wp2_with ((with_reducible refine (c0 _).mono ?_); rintro e w0 ⟨rfl, rfl⟩)
  go_ret2
  exact ⟨ret_two rfl rfl, Kept.refl _⟩
set_option maxHeartbeats 2000000 in
theorem divided_4 (w fl a b P0 P1 Q0 Q1 M0 M1 N0 N1 y V : Int) (P2 Q2 M2 N2 f : Bool) (W : World) (hy : ¬ y = 0) (hf : fl = 0 ∨ fl = 4)
    (c0 : ∀ W, Calls Try.prog 35 #[.int .i64 w, .int .u64 b] W fun e w' => e = .returned (.int .u64 y) ∧ W = w')
    (c1 : Makes 47 #[.int .i64 w, .int .u64 a] (.agg #[.int .u64 P0, .int .u64 P1, .bool P2]))
    (c2 : Makes 47 #[.int .i64 w, .int .u64 b] (.agg #[.int .u64 Q0, .int .u64 Q1, .bool Q2]))
    (c5 : Makes 48 #[.agg #[.int .u64 P0, .int .u64 P1, .bool P2], .agg #[.int .u64 Q0, .int .u64 Q1, .bool Q2]] (.tuple #[.agg #[.int .u64 M0, .int .u64 M1, .bool M2], .agg #[.int .u64 N0, .int .u64 N1, .bool N2]]))
    (c6 : Makes 46 #[.int .i64 w, .agg #[.int .u64 M0, .int .u64 M1, .bool M2], .bool false] (.bool f))
    (c7 : Makes 36 #[.int .i64 w, .agg #[.int .u64 M0, .int .u64 M1, .bool M2]] (.int .u64 V)) :
    Calls Try.prog 31 #[.int .i64 4, .int .i64 w, .int .i64 fl, .int .u64 a, .int .u64 b] W fun e w' => e = .returned (.tuple #[.int .u64 (if f then (if decide (fl = 4) && N1 != 0 then 0 else V) else 0), .int .i64 (if f then (if decide (fl = 4) && N1 != 0 then 1 else 0) else 2)]) ∧ Kept W w' := by
  have hn : N1 = 0 ∨ ((N1 == 0) = false ∧ (N1 != 0) = true ∧ ¬ N1 = 0) := by
    by_cases h : N1 = 0
    · exact .inl h
    · exact .inr ⟨by simpa using h, by simpa using h, h⟩
  rcases hf with rfl | rfl <;> cases f <;> rcases hn with rfl | ⟨n1, n2, n3⟩
  all_goals
    go_enter Try.func31, Try.ntmps31
    go_wp2_with (first
      | ((with_reducible refine (c0 _).mono ?_); rintro e w0 ⟨rfl, rfl⟩)
      | ((with_reducible refine (c1.go _).mono ?_); rintro e w1 ⟨rfl, hb1⟩)
      | ((with_reducible refine (c2.go _).mono ?_); rintro e w2 ⟨rfl, hb2⟩
         have hz2 := ksz hb2
         have E2 := (Blk.new _ _ _ _ _).kept hb2
         have K2 := (hb1.alloc _ _).trans hb2
         have hz1 := hb1.1.size
         obtain ⟨a_s, a_0, a_1, a_2, a_f⟩ := id E2)
      | ((with_reducible refine (c5.go _).mono ?_); rintro e w5 ⟨rfl, hb5⟩
         have K5 := (K2.alloc _ _).trans hb5)
      | ((with_reducible refine (c6.go _).mono ?_); rintro e w6 ⟨rfl, hb6⟩
         have M6 := ((Blk.new _ _ _ _ _).alloc _ _).kept hb6
         have N6 := (Blk.new2 _ _ _ _ _ _ _).kept hb6
         have K6 := ((K5.alloc _ _).alloc _ _).trans hb6
         obtain ⟨m_s, m_0, m_1, m_2, m_f⟩ := M6
         obtain ⟨n_s, n_0, n_1, n_2, n_f⟩ := N6)
      | ((with_reducible refine (c7.go _).mono ?_); rintro e w7 ⟨rfl, hb7⟩
         have K7 := K6.trans hb7))
    go_ret2
    exact ⟨ret_two (by first | rfl | (simp [n3])) (by first | rfl | (simp [n3])), by first | exact K7 | exact K6⟩
set_option maxHeartbeats 2000000 in
theorem divided_5 (w fl a b P0 P1 Q0 Q1 X0 X1 Y0 Y1 M0 M1 N0 N1 y V : Int) (P2 Q2 X2 Y2 M2 N2 f : Bool) (W : World) (hy : ¬ y = 0) (hf : fl = 0 ∨ fl = 4)
    (c0 : ∀ W, Calls Try.prog 35 #[.int .i64 w, .int .u64 b] W fun e w' => e = .returned (.int .u64 y) ∧ W = w')
    (c1 : Makes 47 #[.int .i64 w, .int .u64 a] (.agg #[.int .u64 P0, .int .u64 P1, .bool P2]))
    (c2 : Makes 47 #[.int .i64 w, .int .u64 b] (.agg #[.int .u64 Q0, .int .u64 Q1, .bool Q2]))
    (c3 : Makes 37 #[.int .i64 w, .int .u64 a] (.agg #[.int .u64 X0, .int .u64 X1, .bool X2]))
    (c4 : Makes 37 #[.int .i64 w, .int .u64 b] (.agg #[.int .u64 Y0, .int .u64 Y1, .bool Y2]))
    (c5 : Makes 48 #[.agg #[.int .u64 X0, .int .u64 X1, .bool X2], .agg #[.int .u64 Y0, .int .u64 Y1, .bool Y2]] (.tuple #[.agg #[.int .u64 M0, .int .u64 M1, .bool M2], .agg #[.int .u64 N0, .int .u64 N1, .bool N2]]))
    (c6 : Makes 46 #[.int .i64 w, .agg #[.int .u64 M0, .int .u64 M1, .bool M2], .bool true] (.bool f))
    (c7 : Makes 36 #[.int .i64 w, .agg #[.int .u64 M0, .int .u64 M1, .bool M2]] (.int .u64 V)) :
    Calls Try.prog 31 #[.int .i64 5, .int .i64 w, .int .i64 fl, .int .u64 a, .int .u64 b] W fun e w' => e = .returned (.tuple #[.int .u64 (if f then (if decide (fl = 4) && N1 != 0 then 0 else V) else 0), .int .i64 (if f then (if decide (fl = 4) && N1 != 0 then 1 else 0) else 2)]) ∧ Kept W w' := by
  have hn : N1 = 0 ∨ ((N1 == 0) = false ∧ (N1 != 0) = true ∧ ¬ N1 = 0) := by
    by_cases h : N1 = 0
    · exact .inl h
    · exact .inr ⟨by simpa using h, by simpa using h, h⟩
  rcases hf with rfl | rfl <;> cases f <;> rcases hn with rfl | ⟨n1, n2, n3⟩
  all_goals
    go_enter Try.func31, Try.ntmps31
    go_wp2_with (first
      | ((with_reducible refine (c0 _).mono ?_); rintro e w0 ⟨rfl, rfl⟩)
      | ((with_reducible refine (c1.go _).mono ?_); rintro e w1 ⟨rfl, hb1⟩)
      | ((with_reducible refine (c2.go _).mono ?_); rintro e w2 ⟨rfl, hb2⟩
         have hz2 := ksz hb2
         have E2 := (Blk.new _ _ _ _ _).kept hb2
         have K2 := (hb1.alloc _ _).trans hb2
         have hz1 := hb1.1.size
         obtain ⟨a_s, a_0, a_1, a_2, a_f⟩ := id E2)
      | ((with_reducible refine (c3.go _).mono ?_); rintro e w3 ⟨rfl, hb3⟩
         have hz3 := ksz hb3
         have E3 := (E2.alloc _ _).kept hb3
         have F3 := (Blk.new _ _ _ _ _).kept hb3
         have K3 := (K2.alloc _ _).trans hb3
         obtain ⟨b_s, b_0, b_1, b_2, b_f⟩ := id E3)
      | ((with_reducible refine (c4.go _).mono ?_); rintro e w4 ⟨rfl, hb4⟩
         have E4 := (E3.set _ _ _).kept hb4
         have F4 := (F3.far (k := w1.heap.size) (by omega) _ _ _).kept hb4
         have K4 := (K3.set3 (g := w1.heap.size) (by omega) _ _ _).trans hb4
         obtain ⟨c_s, c_0, c_1, c_2, c_f⟩ := id E4
         obtain ⟨d_s, d_0, d_1, d_2, d_f⟩ := id F4)
      | ((with_reducible refine (c5.go _).mono ?_); rintro e w5 ⟨rfl, hb5⟩
         have K5 := (K4.set3 (g := w2.heap.size) (by omega) _ _ _).trans hb5)
      | ((with_reducible refine (c6.go _).mono ?_); rintro e w6 ⟨rfl, hb6⟩
         have M6 := ((Blk.new _ _ _ _ _).alloc _ _).kept hb6
         have N6 := (Blk.new2 _ _ _ _ _ _ _).kept hb6
         have K6 := ((K5.alloc _ _).alloc _ _).trans hb6
         obtain ⟨m_s, m_0, m_1, m_2, m_f⟩ := M6
         obtain ⟨n_s, n_0, n_1, n_2, n_f⟩ := N6)
      | ((with_reducible refine (c7.go _).mono ?_); rintro e w7 ⟨rfl, hb7⟩
         have K7 := K6.trans hb7))
    go_ret2
    exact ⟨ret_two (by first | rfl | (simp [n3])) (by first | rfl | (simp [n3])), by first | exact K7 | exact K6⟩
set_option maxHeartbeats 2000000 in
theorem divided_6 (w fl a b P0 P1 Q0 Q1 M0 M1 N0 N1 y V : Int) (P2 Q2 M2 N2 f : Bool) (W : World) (hy : ¬ y = 0) (hf : fl = 0 ∨ fl = 4)
    (c0 : ∀ W, Calls Try.prog 35 #[.int .i64 w, .int .u64 b] W fun e w' => e = .returned (.int .u64 y) ∧ W = w')
    (c1 : Makes 47 #[.int .i64 w, .int .u64 a] (.agg #[.int .u64 P0, .int .u64 P1, .bool P2]))
    (c2 : Makes 47 #[.int .i64 w, .int .u64 b] (.agg #[.int .u64 Q0, .int .u64 Q1, .bool Q2]))
    (c5 : Makes 48 #[.agg #[.int .u64 P0, .int .u64 P1, .bool P2], .agg #[.int .u64 Q0, .int .u64 Q1, .bool Q2]] (.tuple #[.agg #[.int .u64 M0, .int .u64 M1, .bool M2], .agg #[.int .u64 N0, .int .u64 N1, .bool N2]]))
    (c6 : Makes 46 #[.int .i64 w, .agg #[.int .u64 M0, .int .u64 M1, .bool M2], .bool false] (.bool f))
    (c7 : Makes 36 #[.int .i64 w, .agg #[.int .u64 N0, .int .u64 N1, .bool N2]] (.int .u64 V)) :
    Calls Try.prog 31 #[.int .i64 6, .int .i64 w, .int .i64 fl, .int .u64 a, .int .u64 b] W fun e w' => e = .returned (.tuple #[.int .u64 (if f then V else 0), .int .i64 (if f then 0 else 2)]) ∧ Kept W w' := by
  cases f
  all_goals
    go_enter Try.func31, Try.ntmps31
    go_wp2_with (first
      | ((with_reducible refine (c0 _).mono ?_); rintro e w0 ⟨rfl, rfl⟩)
      | ((with_reducible refine (c1.go _).mono ?_); rintro e w1 ⟨rfl, hb1⟩)
      | ((with_reducible refine (c2.go _).mono ?_); rintro e w2 ⟨rfl, hb2⟩
         have hz2 := ksz hb2
         have E2 := (Blk.new _ _ _ _ _).kept hb2
         have K2 := (hb1.alloc _ _).trans hb2
         have hz1 := hb1.1.size
         obtain ⟨a_s, a_0, a_1, a_2, a_f⟩ := id E2)
      | ((with_reducible refine (c5.go _).mono ?_); rintro e w5 ⟨rfl, hb5⟩
         have K5 := (K2.alloc _ _).trans hb5)
      | ((with_reducible refine (c6.go _).mono ?_); rintro e w6 ⟨rfl, hb6⟩
         have M6 := ((Blk.new _ _ _ _ _).alloc _ _).kept hb6
         have N6 := (Blk.new2 _ _ _ _ _ _ _).kept hb6
         have K6 := ((K5.alloc _ _).alloc _ _).trans hb6
         obtain ⟨m_s, m_0, m_1, m_2, m_f⟩ := M6
         obtain ⟨n_s, n_0, n_1, n_2, n_f⟩ := N6)
      | ((with_reducible refine (c7.go _).mono ?_); rintro e w7 ⟨rfl, hb7⟩
         have K7 := K6.trans hb7))
    go_ret2
    exact ⟨ret_two rfl rfl, by first | exact K7 | exact K6⟩
set_option maxHeartbeats 2000000 in
theorem divided_7 (w fl a b P0 P1 Q0 Q1 X0 X1 Y0 Y1 M0 M1 N0 N1 y V : Int) (P2 Q2 X2 Y2 M2 N2 f : Bool) (W : World) (hy : ¬ y = 0) (hf : fl = 0 ∨ fl = 4)
    (c0 : ∀ W, Calls Try.prog 35 #[.int .i64 w, .int .u64 b] W fun e w' => e = .returned (.int .u64 y) ∧ W = w')
    (c1 : Makes 47 #[.int .i64 w, .int .u64 a] (.agg #[.int .u64 P0, .int .u64 P1, .bool P2]))
    (c2 : Makes 47 #[.int .i64 w, .int .u64 b] (.agg #[.int .u64 Q0, .int .u64 Q1, .bool Q2]))
    (c3 : Makes 37 #[.int .i64 w, .int .u64 a] (.agg #[.int .u64 X0, .int .u64 X1, .bool X2]))
    (c4 : Makes 37 #[.int .i64 w, .int .u64 b] (.agg #[.int .u64 Y0, .int .u64 Y1, .bool Y2]))
    (c5 : Makes 48 #[.agg #[.int .u64 X0, .int .u64 X1, .bool X2], .agg #[.int .u64 Y0, .int .u64 Y1, .bool Y2]] (.tuple #[.agg #[.int .u64 M0, .int .u64 M1, .bool M2], .agg #[.int .u64 N0, .int .u64 N1, .bool N2]]))
    (c6 : Makes 46 #[.int .i64 w, .agg #[.int .u64 M0, .int .u64 M1, .bool M2], .bool true] (.bool f))
    (c7 : Makes 36 #[.int .i64 w, .agg #[.int .u64 N0, .int .u64 N1, .bool N2]] (.int .u64 V)) :
    Calls Try.prog 31 #[.int .i64 7, .int .i64 w, .int .i64 fl, .int .u64 a, .int .u64 b] W fun e w' => e = .returned (.tuple #[.int .u64 (if f then V else 0), .int .i64 (if f then 0 else 2)]) ∧ Kept W w' := by
  cases f
  all_goals
    go_enter Try.func31, Try.ntmps31
    go_wp2_with (first
      | ((with_reducible refine (c0 _).mono ?_); rintro e w0 ⟨rfl, rfl⟩)
      | ((with_reducible refine (c1.go _).mono ?_); rintro e w1 ⟨rfl, hb1⟩)
      | ((with_reducible refine (c2.go _).mono ?_); rintro e w2 ⟨rfl, hb2⟩
         have hz2 := ksz hb2
         have E2 := (Blk.new _ _ _ _ _).kept hb2
         have K2 := (hb1.alloc _ _).trans hb2
         have hz1 := hb1.1.size
         obtain ⟨a_s, a_0, a_1, a_2, a_f⟩ := id E2)
      | ((with_reducible refine (c3.go _).mono ?_); rintro e w3 ⟨rfl, hb3⟩
         have hz3 := ksz hb3
         have E3 := (E2.alloc _ _).kept hb3
         have F3 := (Blk.new _ _ _ _ _).kept hb3
         have K3 := (K2.alloc _ _).trans hb3
         obtain ⟨b_s, b_0, b_1, b_2, b_f⟩ := id E3)
      | ((with_reducible refine (c4.go _).mono ?_); rintro e w4 ⟨rfl, hb4⟩
         have E4 := (E3.set _ _ _).kept hb4
         have F4 := (F3.far (k := w1.heap.size) (by omega) _ _ _).kept hb4
         have K4 := (K3.set3 (g := w1.heap.size) (by omega) _ _ _).trans hb4
         obtain ⟨c_s, c_0, c_1, c_2, c_f⟩ := id E4
         obtain ⟨d_s, d_0, d_1, d_2, d_f⟩ := id F4)
      | ((with_reducible refine (c5.go _).mono ?_); rintro e w5 ⟨rfl, hb5⟩
         have K5 := (K4.set3 (g := w2.heap.size) (by omega) _ _ _).trans hb5)
      | ((with_reducible refine (c6.go _).mono ?_); rintro e w6 ⟨rfl, hb6⟩
         have M6 := ((Blk.new _ _ _ _ _).alloc _ _).kept hb6
         have N6 := (Blk.new2 _ _ _ _ _ _ _).kept hb6
         have K6 := ((K5.alloc _ _).alloc _ _).trans hb6
         obtain ⟨m_s, m_0, m_1, m_2, m_f⟩ := M6
         obtain ⟨n_s, n_0, n_1, n_2, n_f⟩ := N6)
      | ((with_reducible refine (c7.go _).mono ?_); rintro e w7 ⟨rfl, hb7⟩
         have K7 := K6.trans hb7))
    go_ret2
    exact ⟨ret_two rfl rfl, by first | exact K7 | exact K6⟩
end Go.Proofs.Ythhdgfhndijmeaa
