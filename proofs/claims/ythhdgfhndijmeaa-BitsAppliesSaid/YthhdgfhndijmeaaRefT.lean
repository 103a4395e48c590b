/- Contract of the document's answers (package latheref01): Apply at every operation. -/
import Derived.Test.YthhdgfhndijmeaaRefS
namespace Go.Proofs.Ythhdgfhndijmeaa
open Go.RowKit
set_option linter.unusedVariables false
set_option linter.unusedSimpArgs false

theorem rApply_1 (w fl a b R E : Int) (hw : isW w = true) (hf : bits .andNot .i64 fl 3 = 0) (c : Makes 30 #[.int .i64 1, .int .i64 w, .int .i64 fl, .int .u64 a, .int .u64 b] (.tuple #[.int .u64 R, .int .i64 E])) :
    Makes 14 #[.int .i64 1, .int .i64 w, .int .i64 fl, .int .u64 a, .int .u64 b] (.tuple #[.int .u64 R, .int .i64 E]) := by
  intro W
  have cW : ∀ W, Calls Try.prog 29 #[.int .i64 w] W fun e w' => e = .returned (.bool true) ∧ W = w' := by intro W; rw [← hw]; exact rwidth_any w W
  have cF : ∀ W, Calls Try.prog 16 #[.int .i64 1] W fun e w' => e = .returned (.int .i64 3) ∧ W = w' := rFlags_any 1
  clear hw
  go_enter Try.func14, Try.ntmps14
  go_wp2_with (first
    | ((with_reducible refine (cW _).mono ?_); rintro e w' ⟨rfl, rfl⟩)
    | ((with_reducible refine (cF _).mono ?_); rintro e w' ⟨rfl, rfl⟩)
    | ((with_reducible refine (c.go _).mono ?_); rintro e w1 ⟨rfl, hb1⟩))
  go_ret2
  exact ⟨ret_two rfl rfl, hb1⟩
theorem rApply_2 (w fl a b R E : Int) (hw : isW w = true) (hf : bits .andNot .i64 fl 3 = 0) (c : Makes 30 #[.int .i64 2, .int .i64 w, .int .i64 fl, .int .u64 a, .int .u64 b] (.tuple #[.int .u64 R, .int .i64 E])) :
    Makes 14 #[.int .i64 2, .int .i64 w, .int .i64 fl, .int .u64 a, .int .u64 b] (.tuple #[.int .u64 R, .int .i64 E]) := by
  intro W
  have cW : ∀ W, Calls Try.prog 29 #[.int .i64 w] W fun e w' => e = .returned (.bool true) ∧ W = w' := by intro W; rw [← hw]; exact rwidth_any w W
  have cF : ∀ W, Calls Try.prog 16 #[.int .i64 2] W fun e w' => e = .returned (.int .i64 3) ∧ W = w' := rFlags_any 2
  clear hw
  go_enter Try.func14, Try.ntmps14
  go_wp2_with (first
    | ((with_reducible refine (cW _).mono ?_); rintro e w' ⟨rfl, rfl⟩)
    | ((with_reducible refine (cF _).mono ?_); rintro e w' ⟨rfl, rfl⟩)
    | ((with_reducible refine (c.go _).mono ?_); rintro e w1 ⟨rfl, hb1⟩))
  go_ret2
  exact ⟨ret_two rfl rfl, hb1⟩
theorem rApply_3 (w fl a b R E : Int) (hw : isW w = true) (hf : bits .andNot .i64 fl 3 = 0) (c : Makes 30 #[.int .i64 3, .int .i64 w, .int .i64 fl, .int .u64 a, .int .u64 b] (.tuple #[.int .u64 R, .int .i64 E])) :
    Makes 14 #[.int .i64 3, .int .i64 w, .int .i64 fl, .int .u64 a, .int .u64 b] (.tuple #[.int .u64 R, .int .i64 E]) := by
  intro W
  have cW : ∀ W, Calls Try.prog 29 #[.int .i64 w] W fun e w' => e = .returned (.bool true) ∧ W = w' := by intro W; rw [← hw]; exact rwidth_any w W
  have cF : ∀ W, Calls Try.prog 16 #[.int .i64 3] W fun e w' => e = .returned (.int .i64 3) ∧ W = w' := rFlags_any 3
  clear hw
  go_enter Try.func14, Try.ntmps14
  go_wp2_with (first
    | ((with_reducible refine (cW _).mono ?_); rintro e w' ⟨rfl, rfl⟩)
    | ((with_reducible refine (cF _).mono ?_); rintro e w' ⟨rfl, rfl⟩)
    | ((with_reducible refine (c.go _).mono ?_); rintro e w1 ⟨rfl, hb1⟩))
  go_ret2
  exact ⟨ret_two rfl rfl, hb1⟩
theorem rApply_4 (w fl a b R E : Int) (hw : isW w = true) (hf : bits .andNot .i64 fl 4 = 0) (c : Makes 31 #[.int .i64 4, .int .i64 w, .int .i64 fl, .int .u64 a, .int .u64 b] (.tuple #[.int .u64 R, .int .i64 E])) :
    Makes 14 #[.int .i64 4, .int .i64 w, .int .i64 fl, .int .u64 a, .int .u64 b] (.tuple #[.int .u64 R, .int .i64 E]) := by
  intro W
  have cW : ∀ W, Calls Try.prog 29 #[.int .i64 w] W fun e w' => e = .returned (.bool true) ∧ W = w' := by intro W; rw [← hw]; exact rwidth_any w W
  have cF : ∀ W, Calls Try.prog 16 #[.int .i64 4] W fun e w' => e = .returned (.int .i64 4) ∧ W = w' := rFlags_any 4
  clear hw
  go_enter Try.func14, Try.ntmps14
  go_wp2_with (first
    | ((with_reducible refine (cW _).mono ?_); rintro e w' ⟨rfl, rfl⟩)
    | ((with_reducible refine (cF _).mono ?_); rintro e w' ⟨rfl, rfl⟩)
    | ((with_reducible refine (c.go _).mono ?_); rintro e w1 ⟨rfl, hb1⟩))
  go_ret2
  exact ⟨ret_two rfl rfl, hb1⟩
theorem rApply_5 (w fl a b R E : Int) (hw : isW w = true) (hf : bits .andNot .i64 fl 4 = 0) (c : Makes 31 #[.int .i64 5, .int .i64 w, .int .i64 fl, .int .u64 a, .int .u64 b] (.tuple #[.int .u64 R, .int .i64 E])) :
    Makes 14 #[.int .i64 5, .int .i64 w, .int .i64 fl, .int .u64 a, .int .u64 b] (.tuple #[.int .u64 R, .int .i64 E]) := by
  intro W
  have cW : ∀ W, Calls Try.prog 29 #[.int .i64 w] W fun e w' => e = .returned (.bool true) ∧ W = w' := by intro W; rw [← hw]; exact rwidth_any w W
  have cF : ∀ W, Calls Try.prog 16 #[.int .i64 5] W fun e w' => e = .returned (.int .i64 4) ∧ W = w' := rFlags_any 5
  clear hw
  go_enter Try.func14, Try.ntmps14
  go_wp2_with (first
    | ((with_reducible refine (cW _).mono ?_); rintro e w' ⟨rfl, rfl⟩)
    | ((with_reducible refine (cF _).mono ?_); rintro e w' ⟨rfl, rfl⟩)
    | ((with_reducible refine (c.go _).mono ?_); rintro e w1 ⟨rfl, hb1⟩))
  go_ret2
  exact ⟨ret_two rfl rfl, hb1⟩
theorem rApply_6 (w fl a b R E : Int) (hw : isW w = true) (hf : bits .andNot .i64 fl 0 = 0) (c : Makes 31 #[.int .i64 6, .int .i64 w, .int .i64 fl, .int .u64 a, .int .u64 b] (.tuple #[.int .u64 R, .int .i64 E])) :
    Makes 14 #[.int .i64 6, .int .i64 w, .int .i64 fl, .int .u64 a, .int .u64 b] (.tuple #[.int .u64 R, .int .i64 E]) := by
  intro W
  have cW : ∀ W, Calls Try.prog 29 #[.int .i64 w] W fun e w' => e = .returned (.bool true) ∧ W = w' := by intro W; rw [← hw]; exact rwidth_any w W
  have cF : ∀ W, Calls Try.prog 16 #[.int .i64 6] W fun e w' => e = .returned (.int .i64 0) ∧ W = w' := rFlags_any 6
  clear hw
  go_enter Try.func14, Try.ntmps14
  go_wp2_with (first
    | ((with_reducible refine (cW _).mono ?_); rintro e w' ⟨rfl, rfl⟩)
    | ((with_reducible refine (cF _).mono ?_); rintro e w' ⟨rfl, rfl⟩)
    | ((with_reducible refine (c.go _).mono ?_); rintro e w1 ⟨rfl, hb1⟩))
  go_ret2
  exact ⟨ret_two rfl rfl, hb1⟩
theorem rApply_7 (w fl a b R E : Int) (hw : isW w = true) (hf : bits .andNot .i64 fl 0 = 0) (c : Makes 31 #[.int .i64 7, .int .i64 w, .int .i64 fl, .int .u64 a, .int .u64 b] (.tuple #[.int .u64 R, .int .i64 E])) :
    Makes 14 #[.int .i64 7, .int .i64 w, .int .i64 fl, .int .u64 a, .int .u64 b] (.tuple #[.int .u64 R, .int .i64 E]) := by
  intro W
  have cW : ∀ W, Calls Try.prog 29 #[.int .i64 w] W fun e w' => e = .returned (.bool true) ∧ W = w' := by intro W; rw [← hw]; exact rwidth_any w W
  have cF : ∀ W, Calls Try.prog 16 #[.int .i64 7] W fun e w' => e = .returned (.int .i64 0) ∧ W = w' := rFlags_any 7
  clear hw
  go_enter Try.func14, Try.ntmps14
  go_wp2_with (first
    | ((with_reducible refine (cW _).mono ?_); rintro e w' ⟨rfl, rfl⟩)
    | ((with_reducible refine (cF _).mono ?_); rintro e w' ⟨rfl, rfl⟩)
    | ((with_reducible refine (c.go _).mono ?_); rintro e w1 ⟨rfl, hb1⟩))
  go_ret2
  exact ⟨ret_two rfl rfl, hb1⟩
theorem rApply_8 (w fl a b R E : Int) (hw : isW w = true) (hf : bits .andNot .i64 fl 0 = 0) (c : ∀ W, Calls Try.prog 32 #[.int .i64 8, .int .i64 w, .int .u64 a, .int .u64 b] W fun e w' => e = .returned (.int .u64 R) ∧ W = w') (hE : E = 0) :
    Makes 14 #[.int .i64 8, .int .i64 w, .int .i64 fl, .int .u64 a, .int .u64 b] (.tuple #[.int .u64 R, .int .i64 E]) := by
  intro W
  have cW : ∀ W, Calls Try.prog 29 #[.int .i64 w] W fun e w' => e = .returned (.bool true) ∧ W = w' := by intro W; rw [← hw]; exact rwidth_any w W
  have cF : ∀ W, Calls Try.prog 16 #[.int .i64 8] W fun e w' => e = .returned (.int .i64 0) ∧ W = w' := rFlags_any 8
  clear hw
  subst hE
  go_enter Try.func14, Try.ntmps14
  go_wp2_with (first
    | ((with_reducible refine (cW _).mono ?_); rintro e w' ⟨rfl, rfl⟩)
    | ((with_reducible refine (cF _).mono ?_); rintro e w' ⟨rfl, rfl⟩)
    | ((with_reducible refine (c _).mono ?_); rintro e w1 ⟨rfl, rfl⟩))
  go_ret2
  exact ⟨ret_two rfl rfl, Kept.refl _⟩
theorem rApply_9 (w fl a b R E : Int) (hw : isW w = true) (hf : bits .andNot .i64 fl 0 = 0) (c : ∀ W, Calls Try.prog 32 #[.int .i64 9, .int .i64 w, .int .u64 a, .int .u64 b] W fun e w' => e = .returned (.int .u64 R) ∧ W = w') (hE : E = 0) :
    Makes 14 #[.int .i64 9, .int .i64 w, .int .i64 fl, .int .u64 a, .int .u64 b] (.tuple #[.int .u64 R, .int .i64 E]) := by
  intro W
  have cW : ∀ W, Calls Try.prog 29 #[.int .i64 w] W fun e w' => e = .returned (.bool true) ∧ W = w' := by intro W; rw [← hw]; exact rwidth_any w W
  have cF : ∀ W, Calls Try.prog 16 #[.int .i64 9] W fun e w' => e = .returned (.int .i64 0) ∧ W = w' := rFlags_any 9
  clear hw
  subst hE
  go_enter Try.func14, Try.ntmps14
  go_wp2_with (first
    | ((with_reducible refine (cW _).mono ?_); rintro e w' ⟨rfl, rfl⟩)
    | ((with_reducible refine (cF _).mono ?_); rintro e w' ⟨rfl, rfl⟩)
    | ((with_reducible refine (c _).mono ?_); rintro e w1 ⟨rfl, rfl⟩))
  go_ret2
  exact ⟨ret_two rfl rfl, Kept.refl _⟩
theorem rApply_10 (w fl a b R E : Int) (hw : isW w = true) (hf : bits .andNot .i64 fl 0 = 0) (c : ∀ W, Calls Try.prog 32 #[.int .i64 10, .int .i64 w, .int .u64 a, .int .u64 b] W fun e w' => e = .returned (.int .u64 R) ∧ W = w') (hE : E = 0) :
    Makes 14 #[.int .i64 10, .int .i64 w, .int .i64 fl, .int .u64 a, .int .u64 b] (.tuple #[.int .u64 R, .int .i64 E]) := by
  intro W
  have cW : ∀ W, Calls Try.prog 29 #[.int .i64 w] W fun e w' => e = .returned (.bool true) ∧ W = w' := by intro W; rw [← hw]; exact rwidth_any w W
  have cF : ∀ W, Calls Try.prog 16 #[.int .i64 10] W fun e w' => e = .returned (.int .i64 0) ∧ W = w' := rFlags_any 10
  clear hw
  subst hE
  go_enter Try.func14, Try.ntmps14
  go_wp2_with (first
    | ((with_reducible refine (cW _).mono ?_); rintro e w' ⟨rfl, rfl⟩)
    | ((with_reducible refine (cF _).mono ?_); rintro e w' ⟨rfl, rfl⟩)
    | ((with_reducible refine (c _).mono ?_); rintro e w1 ⟨rfl, rfl⟩))
  go_ret2
  exact ⟨ret_two rfl rfl, Kept.refl _⟩
theorem rApply_11 (w fl a b R E : Int) (hw : isW w = true) (hf : bits .andNot .i64 fl 3 = 0) (c : Makes 30 #[.int .i64 11, .int .i64 w, .int .i64 fl, .int .u64 a, .int .u64 b] (.tuple #[.int .u64 R, .int .i64 E])) :
    Makes 14 #[.int .i64 11, .int .i64 w, .int .i64 fl, .int .u64 a, .int .u64 b] (.tuple #[.int .u64 R, .int .i64 E]) := by
  intro W
  have cW : ∀ W, Calls Try.prog 29 #[.int .i64 w] W fun e w' => e = .returned (.bool true) ∧ W = w' := by intro W; rw [← hw]; exact rwidth_any w W
  have cF : ∀ W, Calls Try.prog 16 #[.int .i64 11] W fun e w' => e = .returned (.int .i64 3) ∧ W = w' := rFlags_any 11
  clear hw
  go_enter Try.func14, Try.ntmps14
  go_wp2_with (first
    | ((with_reducible refine (cW _).mono ?_); rintro e w' ⟨rfl, rfl⟩)
    | ((with_reducible refine (cF _).mono ?_); rintro e w' ⟨rfl, rfl⟩)
    | ((with_reducible refine (c.go _).mono ?_); rintro e w1 ⟨rfl, hb1⟩))
  go_ret2
  exact ⟨ret_two rfl rfl, hb1⟩
theorem rApply_12 (w fl a b R E : Int) (hw : isW w = true) (hf : bits .andNot .i64 fl 4 = 0) (c : Makes 33 #[.int .i64 12, .int .i64 w, .int .i64 fl, .int .u64 a, .int .u64 b] (.tuple #[.int .u64 R, .int .i64 E])) :
    Makes 14 #[.int .i64 12, .int .i64 w, .int .i64 fl, .int .u64 a, .int .u64 b] (.tuple #[.int .u64 R, .int .i64 E]) := by
  intro W
  have cW : ∀ W, Calls Try.prog 29 #[.int .i64 w] W fun e w' => e = .returned (.bool true) ∧ W = w' := by intro W; rw [← hw]; exact rwidth_any w W
  have cF : ∀ W, Calls Try.prog 16 #[.int .i64 12] W fun e w' => e = .returned (.int .i64 4) ∧ W = w' := rFlags_any 12
  clear hw
  go_enter Try.func14, Try.ntmps14
  go_wp2_with (first
    | ((with_reducible refine (cW _).mono ?_); rintro e w' ⟨rfl, rfl⟩)
    | ((with_reducible refine (cF _).mono ?_); rintro e w' ⟨rfl, rfl⟩)
    | ((with_reducible refine (c.go _).mono ?_); rintro e w1 ⟨rfl, hb1⟩))
  go_ret2
  exact ⟨ret_two rfl rfl, hb1⟩
theorem rApply_13 (w fl a b R E : Int) (hw : isW w = true) (hf : bits .andNot .i64 fl 4 = 0) (c : Makes 33 #[.int .i64 13, .int .i64 w, .int .i64 fl, .int .u64 a, .int .u64 b] (.tuple #[.int .u64 R, .int .i64 E])) :
    Makes 14 #[.int .i64 13, .int .i64 w, .int .i64 fl, .int .u64 a, .int .u64 b] (.tuple #[.int .u64 R, .int .i64 E]) := by
  intro W
  have cW : ∀ W, Calls Try.prog 29 #[.int .i64 w] W fun e w' => e = .returned (.bool true) ∧ W = w' := by intro W; rw [← hw]; exact rwidth_any w W
  have cF : ∀ W, Calls Try.prog 16 #[.int .i64 13] W fun e w' => e = .returned (.int .i64 4) ∧ W = w' := rFlags_any 13
  clear hw
  go_enter Try.func14, Try.ntmps14
  go_wp2_with (first
    | ((with_reducible refine (cW _).mono ?_); rintro e w' ⟨rfl, rfl⟩)
    | ((with_reducible refine (cF _).mono ?_); rintro e w' ⟨rfl, rfl⟩)
    | ((with_reducible refine (c.go _).mono ?_); rintro e w1 ⟨rfl, hb1⟩))
  go_ret2
  exact ⟨ret_two rfl rfl, hb1⟩
theorem rApply_14 (w fl a b R E : Int) (hw : isW w = true) (hf : bits .andNot .i64 fl 0 = 0) (B : Bool) (c : Makes 34 #[.int .i64 14, .int .i64 w, .int .u64 a, .int .u64 b] (.bool B)) (hE : E = 0) (hR : R = if B then 1 else 0) :
    Makes 14 #[.int .i64 14, .int .i64 w, .int .i64 fl, .int .u64 a, .int .u64 b] (.tuple #[.int .u64 R, .int .i64 E]) := by
  intro W
  have cW : ∀ W, Calls Try.prog 29 #[.int .i64 w] W fun e w' => e = .returned (.bool true) ∧ W = w' := by intro W; rw [← hw]; exact rwidth_any w W
  have cF : ∀ W, Calls Try.prog 16 #[.int .i64 14] W fun e w' => e = .returned (.int .i64 0) ∧ W = w' := rFlags_any 14
  clear hw
  subst hE
  cases B <;> subst hR
  all_goals
    go_enter Try.func14, Try.ntmps14
    go_wp2_with (first
      | ((with_reducible refine (cW _).mono ?_); rintro e w' ⟨rfl, rfl⟩)
      | ((with_reducible refine (cF _).mono ?_); rintro e w' ⟨rfl, rfl⟩)
      | ((with_reducible refine (c.go _).mono ?_); rintro e w1 ⟨rfl, hb1⟩))
    go_ret2
    exact ⟨ret_two rfl rfl, hb1⟩
theorem rApply_15 (w fl a b R E : Int) (hw : isW w = true) (hf : bits .andNot .i64 fl 0 = 0) (B : Bool) (c : Makes 34 #[.int .i64 15, .int .i64 w, .int .u64 a, .int .u64 b] (.bool B)) (hE : E = 0) (hR : R = if B then 1 else 0) :
    Makes 14 #[.int .i64 15, .int .i64 w, .int .i64 fl, .int .u64 a, .int .u64 b] (.tuple #[.int .u64 R, .int .i64 E]) := by
  intro W
  have cW : ∀ W, Calls Try.prog 29 #[.int .i64 w] W fun e w' => e = .returned (.bool true) ∧ W = w' := by intro W; rw [← hw]; exact rwidth_any w W
  have cF : ∀ W, Calls Try.prog 16 #[.int .i64 15] W fun e w' => e = .returned (.int .i64 0) ∧ W = w' := rFlags_any 15
  clear hw
  subst hE
  cases B <;> subst hR
  all_goals
    go_enter Try.func14, Try.ntmps14
    go_wp2_with (first
      | ((with_reducible refine (cW _).mono ?_); rintro e w' ⟨rfl, rfl⟩)
      | ((with_reducible refine (cF _).mono ?_); rintro e w' ⟨rfl, rfl⟩)
      | ((with_reducible refine (c.go _).mono ?_); rintro e w1 ⟨rfl, hb1⟩))
    go_ret2
    exact ⟨ret_two rfl rfl, hb1⟩
theorem rApply_16 (w fl a b R E : Int) (hw : isW w = true) (hf : bits .andNot .i64 fl 0 = 0) (B : Bool) (c : Makes 34 #[.int .i64 16, .int .i64 w, .int .u64 a, .int .u64 b] (.bool B)) (hE : E = 0) (hR : R = if B then 1 else 0) :
    Makes 14 #[.int .i64 16, .int .i64 w, .int .i64 fl, .int .u64 a, .int .u64 b] (.tuple #[.int .u64 R, .int .i64 E]) := by
  intro W
  have cW : ∀ W, Calls Try.prog 29 #[.int .i64 w] W fun e w' => e = .returned (.bool true) ∧ W = w' := by intro W; rw [← hw]; exact rwidth_any w W
  have cF : ∀ W, Calls Try.prog 16 #[.int .i64 16] W fun e w' => e = .returned (.int .i64 0) ∧ W = w' := rFlags_any 16
  clear hw
  subst hE
  cases B <;> subst hR
  all_goals
    go_enter Try.func14, Try.ntmps14
    go_wp2_with (first
      | ((with_reducible refine (cW _).mono ?_); rintro e w' ⟨rfl, rfl⟩)
      | ((with_reducible refine (cF _).mono ?_); rintro e w' ⟨rfl, rfl⟩)
      | ((with_reducible refine (c.go _).mono ?_); rintro e w1 ⟨rfl, hb1⟩))
    go_ret2
    exact ⟨ret_two rfl rfl, hb1⟩
theorem rApply_17 (w fl a b R E : Int) (hw : isW w = true) (hf : bits .andNot .i64 fl 0 = 0) (B : Bool) (c : Makes 34 #[.int .i64 17, .int .i64 w, .int .u64 a, .int .u64 b] (.bool B)) (hE : E = 0) (hR : R = if B then 1 else 0) :
    Makes 14 #[.int .i64 17, .int .i64 w, .int .i64 fl, .int .u64 a, .int .u64 b] (.tuple #[.int .u64 R, .int .i64 E]) := by
  intro W
  have cW : ∀ W, Calls Try.prog 29 #[.int .i64 w] W fun e w' => e = .returned (.bool true) ∧ W = w' := by intro W; rw [← hw]; exact rwidth_any w W
  have cF : ∀ W, Calls Try.prog 16 #[.int .i64 17] W fun e w' => e = .returned (.int .i64 0) ∧ W = w' := rFlags_any 17
  clear hw
  subst hE
  cases B <;> subst hR
  all_goals
    go_enter Try.func14, Try.ntmps14
    go_wp2_with (first
      | ((with_reducible refine (cW _).mono ?_); rintro e w' ⟨rfl, rfl⟩)
      | ((with_reducible refine (cF _).mono ?_); rintro e w' ⟨rfl, rfl⟩)
      | ((with_reducible refine (c.go _).mono ?_); rintro e w1 ⟨rfl, hb1⟩))
    go_ret2
    exact ⟨ret_two rfl rfl, hb1⟩
theorem rApply_18 (w fl a b R E : Int) (hw : isW w = true) (hf : bits .andNot .i64 fl 0 = 0) (B : Bool) (c : Makes 34 #[.int .i64 18, .int .i64 w, .int .u64 a, .int .u64 b] (.bool B)) (hE : E = 0) (hR : R = if B then 1 else 0) :
    Makes 14 #[.int .i64 18, .int .i64 w, .int .i64 fl, .int .u64 a, .int .u64 b] (.tuple #[.int .u64 R, .int .i64 E]) := by
  intro W
  have cW : ∀ W, Calls Try.prog 29 #[.int .i64 w] W fun e w' => e = .returned (.bool true) ∧ W = w' := by intro W; rw [← hw]; exact rwidth_any w W
  have cF : ∀ W, Calls Try.prog 16 #[.int .i64 18] W fun e w' => e = .returned (.int .i64 0) ∧ W = w' := rFlags_any 18
  clear hw
  subst hE
  cases B <;> subst hR
  all_goals
    go_enter Try.func14, Try.ntmps14
    go_wp2_with (first
      | ((with_reducible refine (cW _).mono ?_); rintro e w' ⟨rfl, rfl⟩)
      | ((with_reducible refine (cF _).mono ?_); rintro e w' ⟨rfl, rfl⟩)
      | ((with_reducible refine (c.go _).mono ?_); rintro e w1 ⟨rfl, hb1⟩))
    go_ret2
    exact ⟨ret_two rfl rfl, hb1⟩
theorem rApply_19 (w fl a b R E : Int) (hw : isW w = true) (hf : bits .andNot .i64 fl 0 = 0) (B : Bool) (c : Makes 34 #[.int .i64 19, .int .i64 w, .int .u64 a, .int .u64 b] (.bool B)) (hE : E = 0) (hR : R = if B then 1 else 0) :
    Makes 14 #[.int .i64 19, .int .i64 w, .int .i64 fl, .int .u64 a, .int .u64 b] (.tuple #[.int .u64 R, .int .i64 E]) := by
  intro W
  have cW : ∀ W, Calls Try.prog 29 #[.int .i64 w] W fun e w' => e = .returned (.bool true) ∧ W = w' := by intro W; rw [← hw]; exact rwidth_any w W
  have cF : ∀ W, Calls Try.prog 16 #[.int .i64 19] W fun e w' => e = .returned (.int .i64 0) ∧ W = w' := rFlags_any 19
  clear hw
  subst hE
  cases B <;> subst hR
  all_goals
    go_enter Try.func14, Try.ntmps14
    go_wp2_with (first
      | ((with_reducible refine (cW _).mono ?_); rintro e w' ⟨rfl, rfl⟩)
      | ((with_reducible refine (cF _).mono ?_); rintro e w' ⟨rfl, rfl⟩)
      | ((with_reducible refine (c.go _).mono ?_); rintro e w1 ⟨rfl, hb1⟩))
    go_ret2
    exact ⟨ret_two rfl rfl, hb1⟩
end Go.Proofs.Ythhdgfhndijmeaa
