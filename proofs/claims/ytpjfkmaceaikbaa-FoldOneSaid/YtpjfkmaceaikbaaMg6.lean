/- Several texts in one: RefT, RefU, BaseB, BaseC, BaseD, BaseE, MPure, MA, MZn. -/
import Derived.OwnWalk
import Derived.Laws.CopyOwn
import Derived.Lib.BufferMore
import Derived.Deep.Heap
import Derived.Deep.Onto
import Derived.Deep.MidRow
import Derived.Maps.AppendAt
import Derived.Deep.RegionHeld3
import Derived.Laws.AppendOwnNone
import Derived.Deep.AppendLies
import Derived.ProofKit
import Derived.Deep.QuietTactic
import Derived.BigQuiet
import Derived.Deep.RegionWith
import Derived.Test.YtpjfkmaceaikbaaMg5
namespace Go.Proofs.Ytpjfkmaceaikbaa
open Go.RowKit
set_option linter.unusedVariables false
set_option linter.unusedSimpArgs false

theorem rApply_1 (w fl a b R E : Int) (hw : isW w = true) (hf : bits .andNot .i64 fl 3 = 0) (c : Makes 70 #[.int .i64 1, .int .i64 w, .int .i64 fl, .int .u64 a, .int .u64 b] (.tuple #[.int .u64 R, .int .i64 E])) :
    Makes 67 #[.int .i64 1, .int .i64 w, .int .i64 fl, .int .u64 a, .int .u64 b] (.tuple #[.int .u64 R, .int .i64 E]) := by
  intro W
  have cW : ∀ W, Calls Try.prog 51 #[.int .i64 w] W fun e w' => e = .returned (.bool true) ∧ W = w' := by intro W; rw [← hw]; exact rwidth_any w W
  have cF : ∀ W, Calls Try.prog 47 #[.int .i64 1] W fun e w' => e = .returned (.int .i64 3) ∧ W = w' := rFlags_any 1
  clear hw
  go_enter Try.func67, Try.ntmps67
  go_wp2_with (first
    | ((with_reducible refine (cW _).mono ?_); rintro e w' ⟨rfl, rfl⟩)
    | ((with_reducible refine (cF _).mono ?_); rintro e w' ⟨rfl, rfl⟩)
    | ((with_reducible refine (c.go _).mono ?_); rintro e w1 ⟨rfl, hb1⟩))
  go_ret2
  exact ⟨ret_two rfl rfl, hb1⟩
theorem rApply_2 (w fl a b R E : Int) (hw : isW w = true) (hf : bits .andNot .i64 fl 3 = 0) (c : Makes 70 #[.int .i64 2, .int .i64 w, .int .i64 fl, .int .u64 a, .int .u64 b] (.tuple #[.int .u64 R, .int .i64 E])) :
    Makes 67 #[.int .i64 2, .int .i64 w, .int .i64 fl, .int .u64 a, .int .u64 b] (.tuple #[.int .u64 R, .int .i64 E]) := by
  intro W
  have cW : ∀ W, Calls Try.prog 51 #[.int .i64 w] W fun e w' => e = .returned (.bool true) ∧ W = w' := by intro W; rw [← hw]; exact rwidth_any w W
  have cF : ∀ W, Calls Try.prog 47 #[.int .i64 2] W fun e w' => e = .returned (.int .i64 3) ∧ W = w' := rFlags_any 2
  clear hw
  go_enter Try.func67, Try.ntmps67
  go_wp2_with (first
    | ((with_reducible refine (cW _).mono ?_); rintro e w' ⟨rfl, rfl⟩)
    | ((with_reducible refine (cF _).mono ?_); rintro e w' ⟨rfl, rfl⟩)
    | ((with_reducible refine (c.go _).mono ?_); rintro e w1 ⟨rfl, hb1⟩))
  go_ret2
  exact ⟨ret_two rfl rfl, hb1⟩
theorem rApply_3 (w fl a b R E : Int) (hw : isW w = true) (hf : bits .andNot .i64 fl 3 = 0) (c : Makes 70 #[.int .i64 3, .int .i64 w, .int .i64 fl, .int .u64 a, .int .u64 b] (.tuple #[.int .u64 R, .int .i64 E])) :
    Makes 67 #[.int .i64 3, .int .i64 w, .int .i64 fl, .int .u64 a, .int .u64 b] (.tuple #[.int .u64 R, .int .i64 E]) := by
  intro W
  have cW : ∀ W, Calls Try.prog 51 #[.int .i64 w] W fun e w' => e = .returned (.bool true) ∧ W = w' := by intro W; rw [← hw]; exact rwidth_any w W
  have cF : ∀ W, Calls Try.prog 47 #[.int .i64 3] W fun e w' => e = .returned (.int .i64 3) ∧ W = w' := rFlags_any 3
  clear hw
  go_enter Try.func67, Try.ntmps67
  go_wp2_with (first
    | ((with_reducible refine (cW _).mono ?_); rintro e w' ⟨rfl, rfl⟩)
    | ((with_reducible refine (cF _).mono ?_); rintro e w' ⟨rfl, rfl⟩)
    | ((with_reducible refine (c.go _).mono ?_); rintro e w1 ⟨rfl, hb1⟩))
  go_ret2
  exact ⟨ret_two rfl rfl, hb1⟩
theorem rApply_4 (w fl a b R E : Int) (hw : isW w = true) (hf : bits .andNot .i64 fl 4 = 0) (c : Makes 71 #[.int .i64 4, .int .i64 w, .int .i64 fl, .int .u64 a, .int .u64 b] (.tuple #[.int .u64 R, .int .i64 E])) :
    Makes 67 #[.int .i64 4, .int .i64 w, .int .i64 fl, .int .u64 a, .int .u64 b] (.tuple #[.int .u64 R, .int .i64 E]) := by
  intro W
  have cW : ∀ W, Calls Try.prog 51 #[.int .i64 w] W fun e w' => e = .returned (.bool true) ∧ W = w' := by intro W; rw [← hw]; exact rwidth_any w W
  have cF : ∀ W, Calls Try.prog 47 #[.int .i64 4] W fun e w' => e = .returned (.int .i64 4) ∧ W = w' := rFlags_any 4
  clear hw
  go_enter Try.func67, Try.ntmps67
  go_wp2_with (first
    | ((with_reducible refine (cW _).mono ?_); rintro e w' ⟨rfl, rfl⟩)
    | ((with_reducible refine (cF _).mono ?_); rintro e w' ⟨rfl, rfl⟩)
    | ((with_reducible refine (c.go _).mono ?_); rintro e w1 ⟨rfl, hb1⟩))
  go_ret2
  exact ⟨ret_two rfl rfl, hb1⟩
theorem rApply_5 (w fl a b R E : Int) (hw : isW w = true) (hf : bits .andNot .i64 fl 4 = 0) (c : Makes 71 #[.int .i64 5, .int .i64 w, .int .i64 fl, .int .u64 a, .int .u64 b] (.tuple #[.int .u64 R, .int .i64 E])) :
    Makes 67 #[.int .i64 5, .int .i64 w, .int .i64 fl, .int .u64 a, .int .u64 b] (.tuple #[.int .u64 R, .int .i64 E]) := by
  intro W
  have cW : ∀ W, Calls Try.prog 51 #[.int .i64 w] W fun e w' => e = .returned (.bool true) ∧ W = w' := by intro W; rw [← hw]; exact rwidth_any w W
  have cF : ∀ W, Calls Try.prog 47 #[.int .i64 5] W fun e w' => e = .returned (.int .i64 4) ∧ W = w' := rFlags_any 5
  clear hw
  go_enter Try.func67, Try.ntmps67
  go_wp2_with (first
    | ((with_reducible refine (cW _).mono ?_); rintro e w' ⟨rfl, rfl⟩)
    | ((with_reducible refine (cF _).mono ?_); rintro e w' ⟨rfl, rfl⟩)
    | ((with_reducible refine (c.go _).mono ?_); rintro e w1 ⟨rfl, hb1⟩))
  go_ret2
  exact ⟨ret_two rfl rfl, hb1⟩
theorem rApply_6 (w fl a b R E : Int) (hw : isW w = true) (hf : bits .andNot .i64 fl 0 = 0) (c : Makes 71 #[.int .i64 6, .int .i64 w, .int .i64 fl, .int .u64 a, .int .u64 b] (.tuple #[.int .u64 R, .int .i64 E])) :
    Makes 67 #[.int .i64 6, .int .i64 w, .int .i64 fl, .int .u64 a, .int .u64 b] (.tuple #[.int .u64 R, .int .i64 E]) := by
  intro W
  have cW : ∀ W, Calls Try.prog 51 #[.int .i64 w] W fun e w' => e = .returned (.bool true) ∧ W = w' := by intro W; rw [← hw]; exact rwidth_any w W
  have cF : ∀ W, Calls Try.prog 47 #[.int .i64 6] W fun e w' => e = .returned (.int .i64 0) ∧ W = w' := rFlags_any 6
  clear hw
  go_enter Try.func67, Try.ntmps67
  go_wp2_with (first
    | ((with_reducible refine (cW _).mono ?_); rintro e w' ⟨rfl, rfl⟩)
    | ((with_reducible refine (cF _).mono ?_); rintro e w' ⟨rfl, rfl⟩)
    | ((with_reducible refine (c.go _).mono ?_); rintro e w1 ⟨rfl, hb1⟩))
  go_ret2
  exact ⟨ret_two rfl rfl, hb1⟩
theorem rApply_7 (w fl a b R E : Int) (hw : isW w = true) (hf : bits .andNot .i64 fl 0 = 0) (c : Makes 71 #[.int .i64 7, .int .i64 w, .int .i64 fl, .int .u64 a, .int .u64 b] (.tuple #[.int .u64 R, .int .i64 E])) :
    Makes 67 #[.int .i64 7, .int .i64 w, .int .i64 fl, .int .u64 a, .int .u64 b] (.tuple #[.int .u64 R, .int .i64 E]) := by
  intro W
  have cW : ∀ W, Calls Try.prog 51 #[.int .i64 w] W fun e w' => e = .returned (.bool true) ∧ W = w' := by intro W; rw [← hw]; exact rwidth_any w W
  have cF : ∀ W, Calls Try.prog 47 #[.int .i64 7] W fun e w' => e = .returned (.int .i64 0) ∧ W = w' := rFlags_any 7
  clear hw
  go_enter Try.func67, Try.ntmps67
  go_wp2_with (first
    | ((with_reducible refine (cW _).mono ?_); rintro e w' ⟨rfl, rfl⟩)
    | ((with_reducible refine (cF _).mono ?_); rintro e w' ⟨rfl, rfl⟩)
    | ((with_reducible refine (c.go _).mono ?_); rintro e w1 ⟨rfl, hb1⟩))
  go_ret2
  exact ⟨ret_two rfl rfl, hb1⟩
theorem rApply_8 (w fl a b R E : Int) (hw : isW w = true) (hf : bits .andNot .i64 fl 0 = 0) (c : ∀ W, Calls Try.prog 72 #[.int .i64 8, .int .i64 w, .int .u64 a, .int .u64 b] W fun e w' => e = .returned (.int .u64 R) ∧ W = w') (hE : E = 0) :
    Makes 67 #[.int .i64 8, .int .i64 w, .int .i64 fl, .int .u64 a, .int .u64 b] (.tuple #[.int .u64 R, .int .i64 E]) := by
  intro W
  have cW : ∀ W, Calls Try.prog 51 #[.int .i64 w] W fun e w' => e = .returned (.bool true) ∧ W = w' := by intro W; rw [← hw]; exact rwidth_any w W
  have cF : ∀ W, Calls Try.prog 47 #[.int .i64 8] W fun e w' => e = .returned (.int .i64 0) ∧ W = w' := rFlags_any 8
  clear hw
  subst hE
  go_enter Try.func67, Try.ntmps67
  go_wp2_with (first
    | ((with_reducible refine (cW _).mono ?_); rintro e w' ⟨rfl, rfl⟩)
    | ((with_reducible refine (cF _).mono ?_); rintro e w' ⟨rfl, rfl⟩)
    | ((with_reducible refine (c _).mono ?_); rintro e w1 ⟨rfl, rfl⟩))
  go_ret2
  exact ⟨ret_two rfl rfl, Kept.refl _⟩
theorem rApply_9 (w fl a b R E : Int) (hw : isW w = true) (hf : bits .andNot .i64 fl 0 = 0) (c : ∀ W, Calls Try.prog 72 #[.int .i64 9, .int .i64 w, .int .u64 a, .int .u64 b] W fun e w' => e = .returned (.int .u64 R) ∧ W = w') (hE : E = 0) :
    Makes 67 #[.int .i64 9, .int .i64 w, .int .i64 fl, .int .u64 a, .int .u64 b] (.tuple #[.int .u64 R, .int .i64 E]) := by
  intro W
  have cW : ∀ W, Calls Try.prog 51 #[.int .i64 w] W fun e w' => e = .returned (.bool true) ∧ W = w' := by intro W; rw [← hw]; exact rwidth_any w W
  have cF : ∀ W, Calls Try.prog 47 #[.int .i64 9] W fun e w' => e = .returned (.int .i64 0) ∧ W = w' := rFlags_any 9
  clear hw
  subst hE
  go_enter Try.func67, Try.ntmps67
  go_wp2_with (first
    | ((with_reducible refine (cW _).mono ?_); rintro e w' ⟨rfl, rfl⟩)
    | ((with_reducible refine (cF _).mono ?_); rintro e w' ⟨rfl, rfl⟩)
    | ((with_reducible refine (c _).mono ?_); rintro e w1 ⟨rfl, rfl⟩))
  go_ret2
  exact ⟨ret_two rfl rfl, Kept.refl _⟩
theorem rApply_10 (w fl a b R E : Int) (hw : isW w = true) (hf : bits .andNot .i64 fl 0 = 0) (c : ∀ W, Calls Try.prog 72 #[.int .i64 10, .int .i64 w, .int .u64 a, .int .u64 b] W fun e w' => e = .returned (.int .u64 R) ∧ W = w') (hE : E = 0) :
    Makes 67 #[.int .i64 10, .int .i64 w, .int .i64 fl, .int .u64 a, .int .u64 b] (.tuple #[.int .u64 R, .int .i64 E]) := by
  intro W
  have cW : ∀ W, Calls Try.prog 51 #[.int .i64 w] W fun e w' => e = .returned (.bool true) ∧ W = w' := by intro W; rw [← hw]; exact rwidth_any w W
  have cF : ∀ W, Calls Try.prog 47 #[.int .i64 10] W fun e w' => e = .returned (.int .i64 0) ∧ W = w' := rFlags_any 10
  clear hw
  subst hE
  go_enter Try.func67, Try.ntmps67
  go_wp2_with (first
    | ((with_reducible refine (cW _).mono ?_); rintro e w' ⟨rfl, rfl⟩)
    | ((with_reducible refine (cF _).mono ?_); rintro e w' ⟨rfl, rfl⟩)
    | ((with_reducible refine (c _).mono ?_); rintro e w1 ⟨rfl, rfl⟩))
  go_ret2
  exact ⟨ret_two rfl rfl, Kept.refl _⟩
theorem rApply_11 (w fl a b R E : Int) (hw : isW w = true) (hf : bits .andNot .i64 fl 3 = 0) (c : Makes 70 #[.int .i64 11, .int .i64 w, .int .i64 fl, .int .u64 a, .int .u64 b] (.tuple #[.int .u64 R, .int .i64 E])) :
    Makes 67 #[.int .i64 11, .int .i64 w, .int .i64 fl, .int .u64 a, .int .u64 b] (.tuple #[.int .u64 R, .int .i64 E]) := by
  intro W
  have cW : ∀ W, Calls Try.prog 51 #[.int .i64 w] W fun e w' => e = .returned (.bool true) ∧ W = w' := by intro W; rw [← hw]; exact rwidth_any w W
  have cF : ∀ W, Calls Try.prog 47 #[.int .i64 11] W fun e w' => e = .returned (.int .i64 3) ∧ W = w' := rFlags_any 11
  clear hw
  go_enter Try.func67, Try.ntmps67
  go_wp2_with (first
    | ((with_reducible refine (cW _).mono ?_); rintro e w' ⟨rfl, rfl⟩)
    | ((with_reducible refine (cF _).mono ?_); rintro e w' ⟨rfl, rfl⟩)
    | ((with_reducible refine (c.go _).mono ?_); rintro e w1 ⟨rfl, hb1⟩))
  go_ret2
  exact ⟨ret_two rfl rfl, hb1⟩
theorem rApply_12 (w fl a b R E : Int) (hw : isW w = true) (hf : bits .andNot .i64 fl 4 = 0) (c : Makes 73 #[.int .i64 12, .int .i64 w, .int .i64 fl, .int .u64 a, .int .u64 b] (.tuple #[.int .u64 R, .int .i64 E])) :
    Makes 67 #[.int .i64 12, .int .i64 w, .int .i64 fl, .int .u64 a, .int .u64 b] (.tuple #[.int .u64 R, .int .i64 E]) := by
  intro W
  have cW : ∀ W, Calls Try.prog 51 #[.int .i64 w] W fun e w' => e = .returned (.bool true) ∧ W = w' := by intro W; rw [← hw]; exact rwidth_any w W
  have cF : ∀ W, Calls Try.prog 47 #[.int .i64 12] W fun e w' => e = .returned (.int .i64 4) ∧ W = w' := rFlags_any 12
  clear hw
  go_enter Try.func67, Try.ntmps67
  go_wp2_with (first
    | ((with_reducible refine (cW _).mono ?_); rintro e w' ⟨rfl, rfl⟩)
    | ((with_reducible refine (cF _).mono ?_); rintro e w' ⟨rfl, rfl⟩)
    | ((with_reducible refine (c.go _).mono ?_); rintro e w1 ⟨rfl, hb1⟩))
  go_ret2
  exact ⟨ret_two rfl rfl, hb1⟩
theorem rApply_13 (w fl a b R E : Int) (hw : isW w = true) (hf : bits .andNot .i64 fl 4 = 0) (c : Makes 73 #[.int .i64 13, .int .i64 w, .int .i64 fl, .int .u64 a, .int .u64 b] (.tuple #[.int .u64 R, .int .i64 E])) :
    Makes 67 #[.int .i64 13, .int .i64 w, .int .i64 fl, .int .u64 a, .int .u64 b] (.tuple #[.int .u64 R, .int .i64 E]) := by
  intro W
  have cW : ∀ W, Calls Try.prog 51 #[.int .i64 w] W fun e w' => e = .returned (.bool true) ∧ W = w' := by intro W; rw [← hw]; exact rwidth_any w W
  have cF : ∀ W, Calls Try.prog 47 #[.int .i64 13] W fun e w' => e = .returned (.int .i64 4) ∧ W = w' := rFlags_any 13
  clear hw
  go_enter Try.func67, Try.ntmps67
  go_wp2_with (first
    | ((with_reducible refine (cW _).mono ?_); rintro e w' ⟨rfl, rfl⟩)
    | ((with_reducible refine (cF _).mono ?_); rintro e w' ⟨rfl, rfl⟩)
    | ((with_reducible refine (c.go _).mono ?_); rintro e w1 ⟨rfl, hb1⟩))
  go_ret2
  exact ⟨ret_two rfl rfl, hb1⟩
theorem rApply_14 (w fl a b R E : Int) (hw : isW w = true) (hf : bits .andNot .i64 fl 0 = 0) (B : Bool) (c : Makes 74 #[.int .i64 14, .int .i64 w, .int .u64 a, .int .u64 b] (.bool B)) (hE : E = 0) (hR : R = if B then 1 else 0) :
    Makes 67 #[.int .i64 14, .int .i64 w, .int .i64 fl, .int .u64 a, .int .u64 b] (.tuple #[.int .u64 R, .int .i64 E]) := by
  intro W
  have cW : ∀ W, Calls Try.prog 51 #[.int .i64 w] W fun e w' => e = .returned (.bool true) ∧ W = w' := by intro W; rw [← hw]; exact rwidth_any w W
  have cF : ∀ W, Calls Try.prog 47 #[.int .i64 14] W fun e w' => e = .returned (.int .i64 0) ∧ W = w' := rFlags_any 14
  clear hw
  subst hE
  cases B <;> subst hR
  all_goals
    go_enter Try.func67, Try.ntmps67
    go_wp2_with (first
      | ((with_reducible refine (cW _).mono ?_); rintro e w' ⟨rfl, rfl⟩)
      | ((with_reducible refine (cF _).mono ?_); rintro e w' ⟨rfl, rfl⟩)
      | ((with_reducible refine (c.go _).mono ?_); rintro e w1 ⟨rfl, hb1⟩))
    go_ret2
    exact ⟨ret_two rfl rfl, hb1⟩
theorem rApply_15 (w fl a b R E : Int) (hw : isW w = true) (hf : bits .andNot .i64 fl 0 = 0) (B : Bool) (c : Makes 74 #[.int .i64 15, .int .i64 w, .int .u64 a, .int .u64 b] (.bool B)) (hE : E = 0) (hR : R = if B then 1 else 0) :
    Makes 67 #[.int .i64 15, .int .i64 w, .int .i64 fl, .int .u64 a, .int .u64 b] (.tuple #[.int .u64 R, .int .i64 E]) := by
  intro W
  have cW : ∀ W, Calls Try.prog 51 #[.int .i64 w] W fun e w' => e = .returned (.bool true) ∧ W = w' := by intro W; rw [← hw]; exact rwidth_any w W
  have cF : ∀ W, Calls Try.prog 47 #[.int .i64 15] W fun e w' => e = .returned (.int .i64 0) ∧ W = w' := rFlags_any 15
  clear hw
  subst hE
  cases B <;> subst hR
  all_goals
    go_enter Try.func67, Try.ntmps67
    go_wp2_with (first
      | ((with_reducible refine (cW _).mono ?_); rintro e w' ⟨rfl, rfl⟩)
      | ((with_reducible refine (cF _).mono ?_); rintro e w' ⟨rfl, rfl⟩)
      | ((with_reducible refine (c.go _).mono ?_); rintro e w1 ⟨rfl, hb1⟩))
    go_ret2
    exact ⟨ret_two rfl rfl, hb1⟩
theorem rApply_16 (w fl a b R E : Int) (hw : isW w = true) (hf : bits .andNot .i64 fl 0 = 0) (B : Bool) (c : Makes 74 #[.int .i64 16, .int .i64 w, .int .u64 a, .int .u64 b] (.bool B)) (hE : E = 0) (hR : R = if B then 1 else 0) :
    Makes 67 #[.int .i64 16, .int .i64 w, .int .i64 fl, .int .u64 a, .int .u64 b] (.tuple #[.int .u64 R, .int .i64 E]) := by
  intro W
  have cW : ∀ W, Calls Try.prog 51 #[.int .i64 w] W fun e w' => e = .returned (.bool true) ∧ W = w' := by intro W; rw [← hw]; exact rwidth_any w W
  have cF : ∀ W, Calls Try.prog 47 #[.int .i64 16] W fun e w' => e = .returned (.int .i64 0) ∧ W = w' := rFlags_any 16
  clear hw
  subst hE
  cases B <;> subst hR
  all_goals
    go_enter Try.func67, Try.ntmps67
    go_wp2_with (first
      | ((with_reducible refine (cW _).mono ?_); rintro e w' ⟨rfl, rfl⟩)
      | ((with_reducible refine (cF _).mono ?_); rintro e w' ⟨rfl, rfl⟩)
      | ((with_reducible refine (c.go _).mono ?_); rintro e w1 ⟨rfl, hb1⟩))
    go_ret2
    exact ⟨ret_two rfl rfl, hb1⟩
theorem rApply_17 (w fl a b R E : Int) (hw : isW w = true) (hf : bits .andNot .i64 fl 0 = 0) (B : Bool) (c : Makes 74 #[.int .i64 17, .int .i64 w, .int .u64 a, .int .u64 b] (.bool B)) (hE : E = 0) (hR : R = if B then 1 else 0) :
    Makes 67 #[.int .i64 17, .int .i64 w, .int .i64 fl, .int .u64 a, .int .u64 b] (.tuple #[.int .u64 R, .int .i64 E]) := by
  intro W
  have cW : ∀ W, Calls Try.prog 51 #[.int .i64 w] W fun e w' => e = .returned (.bool true) ∧ W = w' := by intro W; rw [← hw]; exact rwidth_any w W
  have cF : ∀ W, Calls Try.prog 47 #[.int .i64 17] W fun e w' => e = .returned (.int .i64 0) ∧ W = w' := rFlags_any 17
  clear hw
  subst hE
  cases B <;> subst hR
  all_goals
    go_enter Try.func67, Try.ntmps67
    go_wp2_with (first
      | ((with_reducible refine (cW _).mono ?_); rintro e w' ⟨rfl, rfl⟩)
      | ((with_reducible refine (cF _).mono ?_); rintro e w' ⟨rfl, rfl⟩)
      | ((with_reducible refine (c.go _).mono ?_); rintro e w1 ⟨rfl, hb1⟩))
    go_ret2
    exact ⟨ret_two rfl rfl, hb1⟩
theorem rApply_18 (w fl a b R E : Int) (hw : isW w = true) (hf : bits .andNot .i64 fl 0 = 0) (B : Bool) (c : Makes 74 #[.int .i64 18, .int .i64 w, .int .u64 a, .int .u64 b] (.bool B)) (hE : E = 0) (hR : R = if B then 1 else 0) :
    Makes 67 #[.int .i64 18, .int .i64 w, .int .i64 fl, .int .u64 a, .int .u64 b] (.tuple #[.int .u64 R, .int .i64 E]) := by
  intro W
  have cW : ∀ W, Calls Try.prog 51 #[.int .i64 w] W fun e w' => e = .returned (.bool true) ∧ W = w' := by intro W; rw [← hw]; exact rwidth_any w W
  have cF : ∀ W, Calls Try.prog 47 #[.int .i64 18] W fun e w' => e = .returned (.int .i64 0) ∧ W = w' := rFlags_any 18
  clear hw
  subst hE
  cases B <;> subst hR
  all_goals
    go_enter Try.func67, Try.ntmps67
    go_wp2_with (first
      | ((with_reducible refine (cW _).mono ?_); rintro e w' ⟨rfl, rfl⟩)
      | ((with_reducible refine (cF _).mono ?_); rintro e w' ⟨rfl, rfl⟩)
      | ((with_reducible refine (c.go _).mono ?_); rintro e w1 ⟨rfl, hb1⟩))
    go_ret2
    exact ⟨ret_two rfl rfl, hb1⟩
theorem rApply_19 (w fl a b R E : Int) (hw : isW w = true) (hf : bits .andNot .i64 fl 0 = 0) (B : Bool) (c : Makes 74 #[.int .i64 19, .int .i64 w, .int .u64 a, .int .u64 b] (.bool B)) (hE : E = 0) (hR : R = if B then 1 else 0) :
    Makes 67 #[.int .i64 19, .int .i64 w, .int .i64 fl, .int .u64 a, .int .u64 b] (.tuple #[.int .u64 R, .int .i64 E]) := by
  intro W
  have cW : ∀ W, Calls Try.prog 51 #[.int .i64 w] W fun e w' => e = .returned (.bool true) ∧ W = w' := by intro W; rw [← hw]; exact rwidth_any w W
  have cF : ∀ W, Calls Try.prog 47 #[.int .i64 19] W fun e w' => e = .returned (.int .i64 0) ∧ W = w' := rFlags_any 19
  clear hw
  subst hE
  cases B <;> subst hR
  all_goals
    go_enter Try.func67, Try.ntmps67
    go_wp2_with (first
      | ((with_reducible refine (cW _).mono ?_); rintro e w' ⟨rfl, rfl⟩)
      | ((with_reducible refine (cF _).mono ?_); rintro e w' ⟨rfl, rfl⟩)
      | ((with_reducible refine (c.go _).mono ?_); rintro e w1 ⟨rfl, hb1⟩))
    go_ret2
    exact ⟨ret_two rfl rfl, hb1⟩
theorem rApply_all (op w fl a b : Int) (o1 : 1 ≤ op) (o2 : op ≤ 19) (h1 : 1 ≤ w) (h2 : w ≤ 64) (f0 : -9223372036854775808 ≤ fl) (f1 : fl ≤ 9223372036854775807) (hf : bits .andNot .i64 fl (flg op) = 0)
    (ha : 0 ≤ a) (ha' : a ≤ 18446744073709551615) (hb : 0 ≤ b) (hb' : b ≤ 18446744073709551615) :
    Gives 69 #[.int .i64 op, .int .i64 w, .int .i64 fl, .int .u64 a, .int .u64 b] (aplT w op fl a b) ∧
    Makes 67 #[.int .i64 op, .int .i64 w, .int .i64 fl, .int .u64 a, .int .u64 b] (aplT w op fl a b) := by
  have hw : isW w = true := isW_iff.2 ⟨h1, h2⟩
  have cases19 : op = 1 ∨ op = 2 ∨ op = 3 ∨ op = 4 ∨ op = 5 ∨ op = 6 ∨ op = 7 ∨ op = 8 ∨ op = 9 ∨ op = 10 ∨ op = 11 ∨ op = 12 ∨ op = 13 ∨ op = 14 ∨ op = 15 ∨ op = 16 ∨ op = 17 ∨ op = 18 ∨ op = 19 := by omega
  have cmp : ∀ k, (k = 14 ∨ k = 15 ∨ k = 16 ∨ k = 17 ∨ k = 18 ∨ k = 19) → aplT w k 0 a b = .tuple #[.int .u64 (if cmpB k (a % pw w.toNat) (b % pw w.toNat) (sgn w a) (sgn w b) then 1 else 0), .int .i64 0] := by
    intro k hk
    have e1 := sgn_in a h1 h2
    have e2 := sgn_in b h1 h2
    rw [e1, e2]
    rcases hk with rfl | rfl | rfl | rfl | rfl | rfl <;> rfl
  have bw : ∀ k, (k = 8 ∨ k = 9 ∨ k = 10) → aplT w k 0 a b = .tuple #[.int .u64 (plV w.toNat k (a % pw w.toNat) (b % pw w.toNat)), .int .i64 0] := by
    intro k hk
    rcases hk with rfl | rfl | rfl <;> rfl
  rcases cases19 with rfl | rfl | rfl | rfl | rfl | rfl | rfl | rfl | rfl | rfl | rfl | rfl | rfl | rfl | rfl | rfl | rfl | rfl | rfl
  · have hf' := flags_3 f0 f1 hf
    exact ⟨Apply_1 w fl a b h1 h2 ha ha' hb hb' hf', rApply_1 w fl a b _ _ hw hf (flagged_of 1 w fl a b (by decide) hf' h1 h2 ha ha' hb hb')⟩
  · have hf' := flags_3 f0 f1 hf
    exact ⟨Apply_2 w fl a b h1 h2 ha ha' hb hb' hf', rApply_2 w fl a b _ _ hw hf (flagged_of 2 w fl a b (by decide) hf' h1 h2 ha ha' hb hb')⟩
  · have hf' := flags_3 f0 f1 hf
    exact ⟨Apply_3 w fl a b h1 h2 ha ha' hb hb' hf', rApply_3 w fl a b _ _ hw hf (flagged_of 3 w fl a b (by decide) hf' h1 h2 ha ha' hb hb')⟩
  · have hf' := flags_4 f0 f1 hf
    exact ⟨Apply_4 w fl a b h1 h2 ha ha' hb hb' hf', rApply_4 w fl a b _ _ hw hf (divided_of 4 w fl a b (Or.inl ⟨by decide, hf'⟩) h1 h2 ha ha' hb hb')⟩
  · have hf' := flags_4 f0 f1 hf
    exact ⟨Apply_5 w fl a b h1 h2 ha ha' hb hb' hf', rApply_5 w fl a b _ _ hw hf (divided_of 5 w fl a b (Or.inl ⟨by decide, hf'⟩) h1 h2 ha ha' hb hb')⟩
  · have hf' := flags_0 f0 f1 hf
    exact ⟨Apply_6 w fl a b h1 h2 ha ha' hb hb' hf', rApply_6 w fl a b _ _ hw hf (divided_of 6 w fl a b (Or.inr ⟨by decide, hf'⟩) h1 h2 ha ha' hb hb')⟩
  · have hf' := flags_0 f0 f1 hf
    exact ⟨Apply_7 w fl a b h1 h2 ha ha' hb hb' hf', rApply_7 w fl a b _ _ hw hf (divided_of 7 w fl a b (Or.inr ⟨by decide, hf'⟩) h1 h2 ha ha' hb hb')⟩
  · obtain rfl := flags_0 f0 f1 hf
    exact ⟨Apply_8 w 0 a b h1 h2 ha ha' hb hb' rfl, (rApply_8 w 0 a b _ _ hw hf (bitwise_of 8 w a b (by decide) h1 h2 ha ha' hb hb') rfl).as (bw 8 (by decide)).symm⟩
  · obtain rfl := flags_0 f0 f1 hf
    exact ⟨Apply_9 w 0 a b h1 h2 ha ha' hb hb' rfl, (rApply_9 w 0 a b _ _ hw hf (bitwise_of 9 w a b (by decide) h1 h2 ha ha' hb hb') rfl).as (bw 9 (by decide)).symm⟩
  · obtain rfl := flags_0 f0 f1 hf
    exact ⟨Apply_10 w 0 a b h1 h2 ha ha' hb hb' rfl, (rApply_10 w 0 a b _ _ hw hf (bitwise_of 10 w a b (by decide) h1 h2 ha ha' hb hb') rfl).as (bw 10 (by decide)).symm⟩
  · have hf' := flags_3 f0 f1 hf
    exact ⟨Apply_11 w fl a b h1 h2 ha ha' hb hb' hf', rApply_11 w fl a b _ _ hw hf (flagged_of11 w fl a b hf' h1 h2 ha ha' hb hb')⟩
  · have hf' := flags_4 f0 f1 hf
    exact ⟨Apply_12 w fl a b h1 h2 ha ha' hb hb' hf', rApply_12 w fl a b _ _ hw hf (right_of 12 w fl a b (by decide) hf' h1 h2 ha ha' hb hb')⟩
  · have hf' := flags_4 f0 f1 hf
    exact ⟨Apply_13 w fl a b h1 h2 ha ha' hb hb' hf', rApply_13 w fl a b _ _ hw hf (right_of 13 w fl a b (by decide) hf' h1 h2 ha ha' hb hb')⟩
  · obtain rfl := flags_0 f0 f1 hf
    exact ⟨Apply_14 w 0 a b h1 h2 ha ha' hb hb' rfl, (rApply_14 w 0 a b _ _ hw hf _ (compared_of 14 w a b (by decide) h1 h2 ha ha' hb hb') rfl rfl).as (cmp 14 (by decide)).symm⟩
  · obtain rfl := flags_0 f0 f1 hf
    exact ⟨Apply_15 w 0 a b h1 h2 ha ha' hb hb' rfl, (rApply_15 w 0 a b _ _ hw hf _ (compared_of 15 w a b (by decide) h1 h2 ha ha' hb hb') rfl rfl).as (cmp 15 (by decide)).symm⟩
  · obtain rfl := flags_0 f0 f1 hf
    exact ⟨Apply_16 w 0 a b h1 h2 ha ha' hb hb' rfl, (rApply_16 w 0 a b _ _ hw hf _ (compared_of 16 w a b (by decide) h1 h2 ha ha' hb hb') rfl rfl).as (cmp 16 (by decide)).symm⟩
  · obtain rfl := flags_0 f0 f1 hf
    exact ⟨Apply_17 w 0 a b h1 h2 ha ha' hb hb' rfl, (rApply_17 w 0 a b _ _ hw hf _ (compared_of 17 w a b (by decide) h1 h2 ha ha' hb hb') rfl rfl).as (cmp 17 (by decide)).symm⟩
  · obtain rfl := flags_0 f0 f1 hf
    exact ⟨Apply_18 w 0 a b h1 h2 ha ha' hb hb' rfl, (rApply_18 w 0 a b _ _ hw hf _ (compared_of 18 w a b (by decide) h1 h2 ha ha' hb hb') rfl rfl).as (cmp 18 (by decide)).symm⟩
  · obtain rfl := flags_0 f0 f1 hf
    exact ⟨Apply_19 w 0 a b h1 h2 ha ha' hb hb' rfl, (rApply_19 w 0 a b _ _ hw hf _ (compared_of 19 w a b (by decide) h1 h2 ha ha' hb hb') rfl rfl).as (cmp 19 (by decide)).symm⟩
end Go.Proofs.Ytpjfkmaceaikbaa
namespace Go.Proofs.Ytpjfkmaceaikbaa
open Go.RowKit Go.Maps Go.ChangeShapes Go.WideShapes Go.Deep
set_option linter.unusedVariables false
set_option linter.unusedSimpArgs false

/-- A list of ints, below B. -/
def IntsAt (B : Nat) (w : World) (p : Option Addr) (n c : Nat) (ts : List Int) : Prop :=
  ts.length = n ∧ n ≤ c ∧ c ≤ maxLen ∧ ∀ i (h : i < ts.length), ∃ a, p = some a ∧ a.block < B ∧ w.cell? (a.add i) = some (.int .i64 ts[i])
theorem IntsAt.below {B : Nat} {W w : World} {p : Option Addr} {n c : Nat} {ts : List Int} (h : IntsAt B W p n c ts) (hb : Below B W w) : IntsAt B w p n c ts := by
  obtain ⟨h1, h2, h3, h4⟩ := h
  refine ⟨h1, h2, h3, fun i hi => ?_⟩
  obtain ⟨a, e, ha, hI⟩ := h4 i hi
  exact ⟨a, e, ha, (hb.cell (p := a.add i) (by rw [add_block]; exact ha)).trans hI⟩
/-- What an instruction's reading gives. -/
def InsOk2 (W : World) (d : Ins) : Prop := InsOk W d ∧ ∃ ts : List Int, IntsAt W.heap.size W d.tp d.tl d.tc ts
section
variable {H : Type} {enc : TypeId × Value → H} {W : World} {sp : Nat → Bool} {held : Bool}
/-- What an argument's reading as a function gives. -/
structure FuncOk2 (W : World) (s0 : ByteArray) (p1 : Option Addr) (n1 c1 : Nat) (rt : Int) (p2 : Option Addr) (n2 c2 : Nat) (l : List (List Ins)) : Prop where
  blocks : BlocksAt W.heap.size W (.slice p2 n2 c2) l
  ins : ∀ b (h : b < l.length) k (hk : k < l[b].length), InsOk2 W l[b][k]
  params : ∃ ts : List Int, IntsAt W.heap.size W p1 n1 c1 ts
theorem FuncOk2.ok {W : World} {s0 : ByteArray} {p1 : Option Addr} {n1 c1 : Nat} {rt : Int} {p2 : Option Addr} {n2 c2 : Nat} {l : List (List Ins)} (h : FuncOk2 W s0 p1 n1 c1 rt p2 n2 c2 l) : FuncOk W s0 p1 n1 c1 rt p2 n2 c2 l := ⟨h.blocks, fun b x k y => (h.ins b x k y).1⟩
end
def argC (v : Arg) : List Value := [.int .i64 v.kind, .int .i64 v.n, .int .u64 v.bits]
theorem add_add (a : Addr) (m r : Nat) (hr : r ≠ 0) : a.add (m + r) = ⟨(a.add m).block, (a.add m).off + r, none⟩ := by
  rw [add_pos a (m + r) (by omega)]
  by_cases hm : m = 0
  · subst hm; rw [add_zero, Nat.zero_add]
  · rw [add_pos a m hm]; simp [Nat.add_assoc]
/-- The numbers of an instruction, with other lists. -/
def Ins.with (d : Ins) (ap : Option Addr) (ac : Nat) (tp : Option Addr) (tc : Nat) : Ins := { d with ap := ap, ac := ac, tp := tp, tc := tc }
/-- A block of seven cells of the call's own, that may be written. -/
def Sev (g : Nat) (x0 x1 x2 x3 x4 x5 x6 : Value) (w : World) : Prop :=
  g < w.heap.size ∧ (∀ i, w.frozen? ⟨g, i, none⟩ = false) ∧ w.cell? ⟨g, 0, none⟩ = some x0 ∧ w.cell? ⟨g, 1, none⟩ = some x1 ∧ w.cell? ⟨g, 2, none⟩ = some x2 ∧ w.cell? ⟨g, 3, none⟩ = some x3 ∧ w.cell? ⟨g, 4, none⟩ = some x4 ∧ w.cell? ⟨g, 5, none⟩ = some x5 ∧ w.cell? ⟨g, 6, none⟩ = some x6
theorem Sev.below {B g : Nat} {x0 x1 x2 x3 x4 x5 x6 : Value} {W w : World} (h : Sev g x0 x1 x2 x3 x4 x5 x6 W) (hb : Below B W w) (hg : g < B) : Sev g x0 x1 x2 x3 x4 x5 x6 w := by
  obtain ⟨h0, hf, h1, h2, h3, h4, h5, h6, h7⟩ := h
  exact ⟨Nat.lt_of_lt_of_le h0 hb.size, fun i => (hb.frozen (p := ⟨g, i, none⟩) hg).trans (hf i), (hb.cell (p := ⟨g, 0, none⟩) hg).trans h1, (hb.cell (p := ⟨g, 1, none⟩) hg).trans h2, (hb.cell (p := ⟨g, 2, none⟩) hg).trans h3, (hb.cell (p := ⟨g, 3, none⟩) hg).trans h4, (hb.cell (p := ⟨g, 4, none⟩) hg).trans h5, (hb.cell (p := ⟨g, 5, none⟩) hg).trans h6, (hb.cell (p := ⟨g, 6, none⟩) hg).trans h7⟩
theorem Sev.new (w : World) {g : Nat} (hg : g = w.heap.size) (x0 x1 x2 x3 x4 x5 x6 : Value) (t : TypeId) : Sev g x0 x1 x2 x3 x4 x5 x6 (w.alloc (.cells #[x0, x1, x2, x3, x4, x5, x6] t)) := by
  subst hg
  exact ⟨by simp, fun i => World.frozen?_alloc_at _ _ _ _ rfl, by rw [World.cell?_alloc_at _ _ _ _ rfl]; rfl, by rw [World.cell?_alloc_at _ _ _ _ rfl]; rfl, by rw [World.cell?_alloc_at _ _ _ _ rfl]; rfl, by rw [World.cell?_alloc_at _ _ _ _ rfl]; rfl, by rw [World.cell?_alloc_at _ _ _ _ rfl]; rfl, by rw [World.cell?_alloc_at _ _ _ _ rfl]; rfl, by rw [World.cell?_alloc_at _ _ _ _ rfl]; rfl⟩
theorem Sev.other {g : Nat} {x0 x1 x2 x3 x4 x5 x6 : Value} {w : World} (h : Sev g x0 x1 x2 x3 x4 x5 x6 w) {d : Nat} (hd : d ≠ g) (i : Nat) (v : Value) : Sev g x0 x1 x2 x3 x4 x5 x6 (w.setCell ⟨d, i, none⟩ v) := by
  obtain ⟨h0, hf, h1, h2, h3, h4, h5, h6, h7⟩ := h
  exact ⟨by simpa [World.setCell] using h0, fun i => by rw [World.frozen?_setCell]; exact hf i, by rw [World.cell?_setCell_other (h := fun e => hd (by injection e))]; exact h1, by rw [World.cell?_setCell_other (h := fun e => hd (by injection e))]; exact h2, by rw [World.cell?_setCell_other (h := fun e => hd (by injection e))]; exact h3, by rw [World.cell?_setCell_other (h := fun e => hd (by injection e))]; exact h4, by rw [World.cell?_setCell_other (h := fun e => hd (by injection e))]; exact h5, by rw [World.cell?_setCell_other (h := fun e => hd (by injection e))]; exact h6, by rw [World.cell?_setCell_other (h := fun e => hd (by injection e))]; exact h7⟩
theorem Sev.set3 {g : Nat} {x0 x1 x2 x3 x4 x5 x6 : Value} {w : World} (h : Sev g x0 x1 x2 x3 x4 x5 x6 w) (y : Value) : Sev g x0 x1 x2 y x4 x5 x6 (w.setCell ⟨g, 3, none⟩ y) := by
  obtain ⟨h0, hf, h1, h2, h3, h4, h5, h6, h7⟩ := h
  exact ⟨by simpa [World.setCell] using h0, fun i => by rw [World.frozen?_setCell]; exact hf i, by rw [World.cell?_setCell_other (h := fun e => absurd (congrArg Addr.off e) (show ¬ (3 : Nat) = 0 by decide))]; exact h1, by rw [World.cell?_setCell_other (h := fun e => absurd (congrArg Addr.off e) (show ¬ (3 : Nat) = 1 by decide))]; exact h2, by rw [World.cell?_setCell_other (h := fun e => absurd (congrArg Addr.off e) (show ¬ (3 : Nat) = 2 by decide))]; exact h3, by rw [World.cell?_setCell_same' _ _ _ (by rw [h4]; rfl)], by rw [World.cell?_setCell_other (h := fun e => absurd (congrArg Addr.off e) (show ¬ (3 : Nat) = 4 by decide))]; exact h5, by rw [World.cell?_setCell_other (h := fun e => absurd (congrArg Addr.off e) (show ¬ (3 : Nat) = 5 by decide))]; exact h6, by rw [World.cell?_setCell_other (h := fun e => absurd (congrArg Addr.off e) (show ¬ (3 : Nat) = 6 by decide))]; exact h7⟩
theorem Sev.set4 {g : Nat} {x0 x1 x2 x3 x4 x5 x6 : Value} {w : World} (h : Sev g x0 x1 x2 x3 x4 x5 x6 w) (y : Value) : Sev g x0 x1 x2 x3 y x5 x6 (w.setCell ⟨g, 4, none⟩ y) := by
  obtain ⟨h0, hf, h1, h2, h3, h4, h5, h6, h7⟩ := h
  exact ⟨by simpa [World.setCell] using h0, fun i => by rw [World.frozen?_setCell]; exact hf i, by rw [World.cell?_setCell_other (h := fun e => absurd (congrArg Addr.off e) (show ¬ (4 : Nat) = 0 by decide))]; exact h1, by rw [World.cell?_setCell_other (h := fun e => absurd (congrArg Addr.off e) (show ¬ (4 : Nat) = 1 by decide))]; exact h2, by rw [World.cell?_setCell_other (h := fun e => absurd (congrArg Addr.off e) (show ¬ (4 : Nat) = 2 by decide))]; exact h3, by rw [World.cell?_setCell_other (h := fun e => absurd (congrArg Addr.off e) (show ¬ (4 : Nat) = 3 by decide))]; exact h4, by rw [World.cell?_setCell_same' _ _ _ (by rw [h5]; rfl)], by rw [World.cell?_setCell_other (h := fun e => absurd (congrArg Addr.off e) (show ¬ (4 : Nat) = 5 by decide))]; exact h6, by rw [World.cell?_setCell_other (h := fun e => absurd (congrArg Addr.off e) (show ¬ (4 : Nat) = 6 by decide))]; exact h7⟩
theorem ownsRow_set {w : World} {B e s n : Nat} {v : Value} {xs : List Value} (h : w.ownsRow B e s v n xs) {a : Addr} (ha : a.block < B) (u : Value) : (w.setCell a u).ownsRow B e s v n xs := by
  refine ⟨h.1, ?_⟩
  rcases h.2 with hn | ⟨g, cap, cur, hv, hB, hg, h1, h2, h3, h4⟩
  · exact .inl hn
  · exact .inr ⟨g, cap, cur, hv, hB, (Go.Deep.blk_setCell_other w a u g (by omega)).trans hg, h1, h2, h3, h4⟩
theorem ownsRow_below {w w2 : World} {B e s n : Nat} {v : Value} {xs : List Value} (h : w.ownsRow B e s v n xs) (hb : Below w.heap.size w w2) : w2.ownsRow B e s v n xs := by
  have hlt := h.lt
  refine ⟨h.1, ?_⟩
  rcases h.2 with hn | ⟨g, cap, cur, hv, hB, hg, h1, h2, h3, h4⟩
  · exact .inl hn
  · have h5 : g < w.heap.size := (hlt g (by rw [hv]; rfl)).2
    exact .inr ⟨g, cap, cur, hv, hB, (hb.block g h5).trans hg, h1, h2, h3, h4⟩
theorem row_slice {w : World} {B : Nat} {e : TypeId} {m n : Nat} {v : Value} {xs : List Value} (h : w.ownsRow B e m v n xs) : ∃ (p : Option Addr) (c : Nat), v = .slice p n c := by
  rcases h.2 with ⟨rfl, rfl⟩ | ⟨g, cap, cur, rfl, _⟩
  · exact ⟨none, 0, rfl⟩
  · exact ⟨_, cap, rfl⟩
/-- The blocks from a on, ahead of b, are as they were. -/
def Stay (a b : Nat) (w w' : World) : Prop := ∀ k, a ≤ k → k < b → w'.heap[k]? = w.heap[k]?
theorem Stay.refl (a b : Nat) (w : World) : Stay a b w w := fun _ _ _ => rfl
theorem Stay.trans {a b : Nat} {u v w : World} (h : Stay a b u v) (k : Stay a b v w) : Stay a b u w := fun i x y => (k i x y).trans (h i x y)
theorem Stay.mono {a b a' b' : Nat} {w w' : World} (h : Stay a b w w') (ha : a ≤ a') (hb : b' ≤ b) : Stay a' b' w w' := fun k x y => h k (Nat.le_trans ha x) (Nat.lt_of_lt_of_le y hb)
theorem below_stay {B a b : Nat} {w w' : World} (h : Below B w w') (hb : b ≤ B) : Stay a b w w' := fun k _ y => h.block k (Nat.lt_of_lt_of_le y hb)
theorem Past.stay {B a b : Nat} {w w' : World} (h : Past B w w') (hb : b ≤ B) : Stay a b w w' := below_stay h.2 hb
/-- For each element memory of its own, one range behind the other, none of them holds g. -/
def Spread {α : Type} (Q : Nat → Nat → World → α → Prop) (g : Option Nat) : Nat → Nat → World → List α → Prop
  | lo, hi, _, [] => lo ≤ hi
  | lo, hi, w, x :: xs => ∃ a b, lo ≤ a ∧ a ≤ b ∧ (∀ k, g = some k → k < a ∨ b ≤ k) ∧ Q a b w x ∧ Spread Q g b hi w xs
section
variable {α : Type} {Q : Nat → Nat → World → α → Prop} {g : Option Nat}
theorem Spread.le : ∀ {xs : List α} {lo hi : Nat} {w : World}, Spread Q g lo hi w xs → lo ≤ hi
  | [], _, _, _, h => h
  | x :: xs, lo, hi, w, ⟨a, b, h1, h2, _, _, h⟩ => by have := Spread.le h; omega
theorem Spread.up : ∀ {xs : List α} {lo hi hi' : Nat} {w : World}, Spread Q g lo hi w xs → hi ≤ hi' → Spread Q g lo hi' w xs
  | [], _, _, _, _, h, hh => Nat.le_trans h hh
  | x :: xs, _, _, _, _, ⟨a, b, h1, h2, h3, h4, h⟩, hh => ⟨a, b, h1, h2, h3, h4, Spread.up h hh⟩
/-- Q hangs on its range alone. -/
def Local (Q : Nat → Nat → World → α → Prop) : Prop := ∀ a b w w' x, Stay a b w w' → Q a b w x → Q a b w' x
theorem Spread.stay (hQ : Local Q) : ∀ {xs : List α} {lo hi : Nat} {w w' : World}, Spread Q g lo hi w xs → (∀ k, lo ≤ k → k < hi → g ≠ some k → w'.heap[k]? = w.heap[k]?) → Spread Q g lo hi w' xs
  | [], _, _, _, _, h, _ => h
  | x :: xs, lo, hi, w, w', ⟨a, b, h1, h2, h3, h4, h⟩, hs => by
    have hle := Spread.le h
    exact ⟨a, b, h1, h2, h3, hQ a b w w' x (fun k x y => hs k (by omega) (by omega) (fun e => by have := h3 k e; omega)) h4, Spread.stay hQ h (fun k x y e => hs k (by omega) y e)⟩
/-- Another row's block: g may be any that lies in none of the ranges; so one at or behind hi. -/
theorem Spread.row : ∀ {xs : List α} {lo hi : Nat} {w : World} {g' : Option Nat}, Spread Q g lo hi w xs → (∀ k, g' = some k → hi ≤ k ∨ k < lo) → Spread Q g' lo hi w xs
  | [], _, _, _, _, h, _ => h
  | x :: xs, lo, hi, w, g', ⟨a, b, h1, h2, h3, h4, h⟩, hg => by
    have hle := Spread.le h
    exact ⟨a, b, h1, h2, fun k e => by have := hg k e; omega, h4, Spread.row h (fun k e => by have := hg k e; omega)⟩
/-- An element's own memory; what is done within it leaves the others'. -/
theorem Spread.at (hQ : Local Q) : ∀ {xs : List α} {lo hi : Nat} {w : World} (h : Spread Q g lo hi w xs) (i : Nat) (hi' : i < xs.length),
    ∃ a b, lo ≤ a ∧ a ≤ b ∧ b ≤ hi ∧ (∀ k, g = some k → k < a ∨ b ≤ k) ∧ Q a b w xs[i] ∧
      ∀ w' y, (∀ k, lo ≤ k → k < hi → g ≠ some k → (k < a ∨ b ≤ k) → w'.heap[k]? = w.heap[k]?) → Q a b w' y → Spread Q g lo hi w' (xs.set i y)
  | [], _, _, _, _, i, hi' => absurd hi' (Nat.not_lt_zero _)
  | x :: xs, lo, hi, w, ⟨a, b, h1, h2, h3, h4, h⟩, 0, _ => by
    have hle := Spread.le h
    exact ⟨a, b, h1, h2, hle, h3, h4, fun w' y hs hy => ⟨a, b, h1, h2, h3, hy, Spread.stay hQ h (fun k p q e => hs k (by omega) q e (Or.inr p))⟩⟩
  | x :: xs, lo, hi, w, ⟨a, b, h1, h2, h3, h4, h⟩, i + 1, hi' => by
    obtain ⟨c, d, k1, k2, k3, k4, k5, k6⟩ := Spread.at hQ h i (by simpa using hi')
    exact ⟨c, d, by omega, k2, k3, k4, k5, fun w' y hs hy => ⟨a, b, h1, h2, h3, hQ a b w w' x (fun k p q => hs k (by omega) (by omega) (fun e => by have := h3 k e; omega) (Or.inl (by omega))) h4,
      k6 w' y (fun k p q e r => hs k (by omega) q e r) hy⟩⟩
theorem Spread.imp {Q' : Nat → Nat → World → α → Prop} (h : ∀ a b w x, Q a b w x → Q' a b w x) : ∀ {xs : List α} {lo hi : Nat} {w : World}, Spread Q g lo hi w xs → Spread Q' g lo hi w xs
  | [], _, _, _, k => k
  | x :: xs, _, _, _, ⟨a, b, h1, h2, h3, h4, k⟩ => ⟨a, b, h1, h2, h3, h _ _ _ _ h4, Spread.imp h k⟩
end
def sets (xs : List Value) (o : Nat) : List Value → List Value
  | [] => xs
  | c :: r => sets (xs.set o c) (o + 1) r
theorem sets_get : ∀ (cs : List Value) (xs : List Value) (o j : Nat), o + cs.length ≤ xs.length → (sets xs o cs)[j]? = if o ≤ j ∧ j < o + cs.length then cs[j - o]? else xs[j]?
  | [], xs, o, j, _ => by
    have : ¬ (o ≤ j ∧ j < o + ([] : List Value).length) := by simp only [List.length_nil]; omega
    rw [if_neg this]
    rfl
  | c :: r, xs, o, j, h => by
    simp only [List.length_cons] at h
    unfold sets
    rw [sets_get r (xs.set o c) (o + 1) j (by rw [List.length_set]; omega)]
    by_cases h1 : o + 1 ≤ j ∧ j < o + 1 + r.length
    · rw [if_pos h1, if_pos (by simp only [List.length_cons]; omega)]
      obtain ⟨m, rfl⟩ : ∃ m, j = o + 1 + m := ⟨j - (o + 1), by omega⟩
      rw [show o + 1 + m - o = m + 1 by omega, show o + 1 + m - (o + 1) = m by omega, List.getElem?_cons_succ]
    · rw [if_neg h1, List.getElem?_set]
      by_cases h2 : o = j
      · subst h2
        rw [if_pos rfl, if_pos (by omega), if_pos (by simp only [List.length_cons]; omega), Nat.sub_self]; rfl
      · rw [if_neg h2, if_neg (by simp only [List.length_cons]; omega)]
theorem flat_len {α : Type} (f : α → List Value) (m : Nat) (hf : ∀ x, (f x).length = m) (L : List α) : (L.flatMap f).length = L.length * m := by
  induction L with
  | nil => simp
  | cons x L ih => rw [List.flatMap_cons, List.length_append, ih, hf, List.length_cons, Nat.add_mul, Nat.one_mul, Nat.add_comm]
theorem sets_flat {α : Type} (f : α → List Value) (m : Nat) (hm : 0 < m) (hf : ∀ x, (f x).length = m) (L : List α) (i : Nat) (hi : i < L.length) (y : α) : sets (L.flatMap f) (i * m) (f y) = (L.set i y).flatMap f := by
  have hle : i * m + m ≤ L.length * m := by have := Nat.mul_le_mul_right m (Nat.succ_le_of_lt hi); rw [Nat.succ_mul] at this; exact this
  apply List.ext_getElem?
  intro j
  rw [sets_get _ _ _ _ (by rw [flat_len f m hf, hf]; exact hle), hf]
  by_cases hj : j < L.length * m
  · have hq : j / m < L.length := Nat.div_lt_of_lt_mul (by rw [Nat.mul_comm]; exact hj)
    have hr : j % m < m := Nat.mod_lt _ hm
    have e : j = j / m * m + j % m := by rw [Nat.mul_comm]; exact (Nat.div_add_mod j m).symm
    have e2 : ((L.set i y).flatMap f)[j]? = (f (if i = j / m then y else L[j / m]))[j % m]? := by
      have := flat_get f m hf (L.set i y) (j / m) (by simpa using hq) (j % m) hr
      rw [← e, List.getElem_set] at this; exact this
    have e3 : (L.flatMap f)[j]? = (f L[j / m])[j % m]? := by
      have := flat_get f m hf L (j / m) hq (j % m) hr
      rw [← e] at this; exact this
    rw [e2, e3]
    by_cases hij : i = j / m
    · rw [if_pos hij]
      have h1 : i * m ≤ j := by rw [hij, Nat.mul_comm]; exact Nat.mul_div_le j m
      have h2 : j < i * m + m := by rw [e, hij]; omega
      rw [if_pos ⟨h1, h2⟩]
      congr 1
      rw [hij]; omega
    · rw [if_neg hij, if_neg]
      rintro ⟨h1, h2⟩
      apply hij
      have h3 : i ≤ j / m := (Nat.le_div_iff_mul_le hm).2 h1
      have h4 : j / m < i + 1 := (Nat.div_lt_iff_lt_mul hm).2 (by rw [Nat.add_mul, Nat.one_mul]; exact h2)
      omega
  · rw [if_neg (by omega), List.getElem?_eq_none (by rw [flat_len f m hf]; omega), List.getElem?_eq_none (by rw [flat_len f m hf, List.length_set]; omega)]
theorem setCells_own {B e m g n cap : Nat} : ∀ (cs : List Value) (o : Nat) {w : World} {xs : List Value}, w.ownsRow B e m (.slice (some ⟨g, 0, none⟩) n cap) n xs →
    (w.setCells g o cs).ownsRow B e m (.slice (some ⟨g, 0, none⟩) n cap) n (sets xs o cs)
  | [], _, _, _, h => h
  | c :: r, o, w, xs, h => by
    unfold sets World.setCells
    exact setCells_own r (o + 1) (h.stored o c).1
theorem setCells_heap (g : Nat) : ∀ (cs : List Value) (o : Nat) (w : World) (k : Nat), k ≠ g → (w.setCells g o cs).heap[k]? = w.heap[k]?
  | [], _, _, _, _ => rfl
  | c :: r, o, w, k, h => by
    unfold World.setCells
    rw [setCells_heap g r (o + 1) _ k h]
    exact Below.heap_setCell w ⟨g, o, none⟩ c k h
theorem Past.setCells {B : Nat} {W : World} {g : Nat} (hg : B ≤ g) : ∀ (cs : List Value) (o : Nat) {w : World}, Past B W w → Past B W (w.setCells g o cs)
  | [], _, _, h => h
  | c :: r, o, w, h => by
    unfold World.setCells
    exact Past.setCells hg r (o + 1) (h.set (a := ⟨g, o, none⟩) hg c)
structure PVar where
  nm : ByteArray
  size : Int
abbrev LI := Ins × List Int
structure LB where
  p : Option Addr
  n : Nat
  k : Nat
  code : List LI
structure LFn where
  nm : ByteArray
  pp : Option Addr
  pn : Nat
  pc : Nat
  ps : List Int
  rt : Int
  bp : Option Addr
  bn : Nat
  bc : Nat
  bs : List LB
structure LExt where
  nm : ByteArray
  pp : Option Addr
  pn : Nat
  pc : Nat
  ps : List Int
  rt : Int
def intC (i : Int) : List Value := [.int .i64 i]
def RowAt (B : Nat) (w : World) (p : Option Addr) (cs : List Value) : Prop := ∀ j u, cs[j]? = some u → ∃ a, p = some a ∧ a.block < B ∧ w.cell? (a.add j) = some u
def ListIn {α : Type} (cel : α → List Value) (E : Nat → World → α → Prop) (B : Nat) (w : World) (p : Option Addr) (n c : Nat) (xs : List α) : Prop :=
  n = xs.length ∧ n ≤ c ∧ c ≤ maxLen ∧ RowAt B w p (xs.flatMap cel) ∧ ∀ x ∈ xs, E B w x
def NoMem {α : Type} : Nat → World → α → Prop := fun _ _ _ => True
def InsIn (B : Nat) (w : World) (x : LI) : Prop := ListIn argC NoMem B w x.1.ap x.1.al x.1.ac x.1.args ∧ ListIn intC NoMem B w x.1.tp x.1.tl x.1.tc x.2
theorem RowAt.below {B : Nat} {W w : World} {p : Option Addr} {cs : List Value} (h : RowAt B W p cs) (hb : Below B W w) : RowAt B w p cs := fun j u hu => by
  obtain ⟨a, e, ha, hc⟩ := h j u hu
  exact ⟨a, e, ha, (hb.cell (p := a.add j) (by rw [add_block]; exact ha)).trans hc⟩
theorem RowAt.mono {B B' : Nat} {w : World} {p : Option Addr} {cs : List Value} (h : RowAt B w p cs) (hB : B ≤ B') : RowAt B' w p cs := fun j u hu => by
  obtain ⟨a, e, ha, hc⟩ := h j u hu
  exact ⟨a, e, Nat.lt_of_lt_of_le ha hB, hc⟩
/-- What lies below B stays, when all below B stays; and lies below each greater number. -/
def Lasts {α : Type} (E : Nat → World → α → Prop) : Prop := ∀ B B' W w x, Below B W w → B ≤ B' → E B W x → E B' w x
theorem lasts_NoMem {α : Type} : Lasts (NoMem (α := α)) := fun _ _ _ _ _ _ _ _ => trivial
theorem ListIn.lasts {α : Type} {cel : α → List Value} {E : Nat → World → α → Prop} (hE : Lasts E) {B B' : Nat} {W w : World} {p : Option Addr} {n c : Nat} {xs : List α} (h : ListIn cel E B W p n c xs) (hb : Below B W w) (hB : B ≤ B') : ListIn cel E B' w p n c xs :=
  ⟨h.1, h.2.1, h.2.2.1, (h.2.2.2.1.below hb).mono hB, fun x hx => hE _ _ _ _ _ hb hB (h.2.2.2.2 x hx)⟩
theorem RowAt.at {α : Type} {cel : α → List Value} {m : Nat} (hc : ∀ x, (cel x).length = m) {B : Nat} {w : World} {p : Option Addr} {xs : List α} (h : RowAt B w p (xs.flatMap cel)) (i : Nat) (hi : i < xs.length) (hm : 0 < m) :
    ∃ a, p = some a ∧ a.block < B ∧ ∀ r, r < m → w.cell? (a.add (i * m + r)) = (cel xs[i])[r]? := by
  have key : ∀ r, r < m → ∃ a, p = some a ∧ a.block < B ∧ w.cell? (a.add (i * m + r)) = (cel xs[i])[r]? := fun r hr => by
    have e := flat_get cel m hc xs i hi r hr
    have hs : (cel xs[i])[r]? = some ((cel xs[i])[r]'(by rw [hc]; exact hr)) := List.getElem?_eq_getElem _
    rw [hs] at e ⊢
    exact h _ _ e
  obtain ⟨a, e, ha, _⟩ := key 0 hm
  refine ⟨a, e, ha, fun r hr => ?_⟩
  obtain ⟨a', e', _, h'⟩ := key r hr
  rw [e] at e'
  cases e'
  exact h'
theorem rowAt_of {α : Type} {cel : α → List Value} {m : Nat} (hc : ∀ x, (cel x).length = m) {B : Nat} {w : World} {p : Option Addr} {xs : List α} (hm : 0 < m)
    (h : ∀ i (hi : i < xs.length), ∃ a, p = some a ∧ a.block < B ∧ ∀ r, r < m → w.cell? (a.add (i * m + r)) = (cel xs[i])[r]?) : RowAt B w p (xs.flatMap cel) := fun j u hu => by
  have hj : j < xs.length * m := by rw [← flat_len cel m hc]; exact (List.getElem?_eq_some_iff.1 hu).1
  have hq : j / m < xs.length := Nat.div_lt_of_lt_mul (by rw [Nat.mul_comm]; exact hj)
  have hr : j % m < m := Nat.mod_lt _ hm
  have e : j = j / m * m + j % m := by rw [Nat.mul_comm]; exact (Nat.div_add_mod j m).symm
  obtain ⟨a, e1, ha, hcell⟩ := h (j / m) hq
  refine ⟨a, e1, ha, ?_⟩
  have h1 := hcell (j % m) hr
  rw [← e] at h1
  rw [h1, ← flat_get cel m hc xs (j / m) hq (j % m) hr, ← e]
  exact hu
theorem ListIn.cells {α : Type} {cel : α → List Value} {E : Nat → World → α → Prop} {B : Nat} {w : World} {p : Option Addr} {n c : Nat} {xs : List α} (h : ListIn cel E B w p n c xs) : ∀ j u, (xs.flatMap cel)[j]? = some u → ∃ a, p = some a ∧ w.cell? (a.add j) = some u := fun j u hu => by
  obtain ⟨a, e, _, hc⟩ := h.2.2.2.1 j u hu
  exact ⟨a, e, hc⟩
def ListOwn {α : Type} (ty : TypeId) (m : Nat) (cel : α → List Value) (Q : Nat → Nat → World → α → Prop) (a b : Nat) (w : World) (p : Option Addr) (n c : Nat) (xs : List α) : Prop :=
  n = xs.length ∧ w.ownsRow a ty m (.slice p n c) n (xs.flatMap cel) ∧ (∀ g, (Value.slice p n c).ownBlock = some g → g < b) ∧ Spread Q (Value.slice p n c).ownBlock a b w xs
theorem ownsRow_stay {w w' : World} {B e m n b : Nat} {v : Value} {xs : List Value} (h : w.ownsRow B e m v n xs) (hb : ∀ g, v.ownBlock = some g → g < b) (hs : Stay B b w w') : w'.ownsRow B e m v n xs := by
  refine ⟨h.1, ?_⟩
  rcases h.2 with hn | ⟨g, cap, cur, hv, hB, hg, h1, h2, h3, h4⟩
  · exact .inl hn
  · exact .inr ⟨g, cap, cur, hv, hB, (hs g hB (hb g (by rw [hv]; rfl))).trans hg, h1, h2, h3, h4⟩
theorem ListOwn.stay {α : Type} {ty m : Nat} {cel : α → List Value} {Q : Nat → Nat → World → α → Prop} (hQ : Local Q) {a b : Nat} {w w' : World} {p : Option Addr} {n c : Nat} {xs : List α} (h : ListOwn ty m cel Q a b w p n c xs) (hs : Stay a b w w') : ListOwn ty m cel Q a b w' p n c xs :=
  ⟨h.1, ownsRow_stay h.2.1 h.2.2.1 hs, h.2.2.1, h.2.2.2.stay hQ (fun k x y _ => hs k x y)⟩
theorem ListOwn.le {α : Type} {ty m : Nat} {cel : α → List Value} {Q : Nat → Nat → World → α → Prop} {a b : Nat} {w : World} {p : Option Addr} {n c : Nat} {xs : List α} (h : ListOwn ty m cel Q a b w p n c xs) : a ≤ b := h.2.2.2.le
/-- What is owned lies in memory. -/
theorem Spread.mem {α : Type} {Q : Nat → Nat → World → α → Prop} {g : Option Nat} : ∀ {xs : List α} {lo hi : Nat} {w : World}, Spread Q g lo hi w xs → ∀ x ∈ xs, ∃ a b, b ≤ hi ∧ Q a b w x
  | [], _, _, _, _, _, hx => absurd hx (by simp)
  | y :: xs, lo, hi, w, ⟨a, b, h1, h2, h3, h4, h⟩, x, hx => by
    rcases List.mem_cons.1 hx with rfl | hx
    · exact ⟨a, b, h.le, h4⟩
    · exact Spread.mem h x hx
theorem InsIn.args {B : Nat} {w : World} {x : LI} (h : InsIn B w x) : ArgsAt B w x.1 := by
  obtain ⟨h1, h2, h3, h4, -⟩ := h.1
  refine ⟨h1, by omega, h3, fun i hi => ?_⟩
  obtain ⟨a, e, ha, hc⟩ := h4.at (m := 3) (fun _ => rfl) i hi (by decide)
  refine ⟨a, e, ha, hc 0 (by decide), ?_, ?_⟩
  · have := hc 1 (by decide); rw [add_add a _ 1 (by decide)] at this; exact this
  · have := hc 2 (by decide); rw [add_add a _ 2 (by decide)] at this; exact this
theorem own_intro {α : Type} {ty m : Nat} {cel : α → List Value} {Q : Nat → Nat → World → α → Prop} {a b : Nat} {w : World} {p : Option Addr} {n c : Nat} {xs : List α} (hn : n = xs.length) (h : w.ownsRow a ty m (.slice p n c) n (xs.flatMap cel)) (hb : b = w.heap.size) (hs : Spread Q (Value.slice p n c).ownBlock a b w xs) : ListOwn ty m cel Q a b w p n c xs :=
  ⟨hn, h, fun g hg => by rw [hb]; exact (h.lt g hg).2, hs⟩
/-- Own blocks of few cells. -/
def Box (g : Nat) (cs : List Value) (w : World) : Prop := g < w.heap.size ∧ (∀ i, w.frozen? ⟨g, i, none⟩ = false) ∧ ∀ i u, cs[i]? = some u → w.cell? ⟨g, i, none⟩ = some u
theorem Box.new (w : World) {g : Nat} (hg : g = w.heap.size) (cs : List Value) (t : TypeId) : Box g cs (w.alloc (.cells cs.toArray t)) := by
  subst hg
  refine ⟨by simp, fun i => World.frozen?_alloc_at _ _ _ _ rfl, fun i u h => ?_⟩
  rw [World.cell?_alloc_at _ _ _ _ rfl]
  simpa using h
theorem Box.below {B g : Nat} {cs : List Value} {W w : World} (h : Box g cs W) (hb : Below B W w) (hg : g < B) : Box g cs w :=
  ⟨Nat.lt_of_lt_of_le h.1 hb.size, fun i => (hb.frozen (p := ⟨g, i, none⟩) hg).trans (h.2.1 i), fun i u e => (hb.cell (p := ⟨g, i, none⟩) hg).trans (h.2.2 i u e)⟩
theorem Box.later {g : Nat} {cs : List Value} {W w : World} (h : Box g cs W) (hb : Below W.heap.size W w) : Box g cs w := h.below hb h.1
theorem Box.alloc {g : Nat} {cs : List Value} {W : World} (h : Box g cs W) (o : Obj) : Box g cs (W.alloc o) := h.later ((Below.refl _ _).alloc (Nat.le_refl _) o)
theorem Box.other {g d : Nat} {cs : List Value} {w : World} (h : Box g cs w) (hd : d ≠ g) (i : Nat) (v : Value) : Box g cs (w.setCell ⟨d, i, none⟩ v) :=
  ⟨by simpa [World.setCell] using h.1, fun i => by rw [World.frozen?_setCell]; exact h.2.1 i, fun j u e => by rw [World.cell?_setCell_other (h := fun e => hd (by injection e))]; exact h.2.2 j u e⟩
theorem Box.set {g : Nat} {cs : List Value} {w : World} (h : Box g cs w) (i : Nat) (v : Value) : Box g (cs.set i v) (w.setCell ⟨g, i, none⟩ v) := by
  refine ⟨by simpa [World.setCell] using h.1, fun i => by rw [World.frozen?_setCell]; exact h.2.1 i, fun j u e => ?_⟩
  rw [List.getElem?_set] at e
  by_cases hij : i = j
  · subst hij
    rw [if_pos rfl] at e
    by_cases hl : i < cs.length
    · rw [if_pos hl] at e
      obtain ⟨u0, hu0⟩ : ∃ u0, cs[i]? = some u0 := ⟨_, List.getElem?_eq_getElem hl⟩
      rw [World.cell?_setCell_same' _ _ _ (by rw [h.2.2 i u0 hu0]; rfl)]
      exact e
    · rw [if_neg hl] at e; cases e
  · rw [if_neg hij] at e
    rw [World.cell?_setCell_other (h := fun e => hij (by injection e))]
    exact h.2.2 j u e
theorem Box.get {g : Nat} {cs : List Value} {w : World} (h : Box g cs w) (i : Nat) (u : Value) (e : cs[i]? = some u) : w.cell? ⟨g, i, none⟩ = some u := h.2.2 i u e
theorem Box.kept {g : Nat} {cs : List Value} {w w' : World} {row : Option Nat} (h : Box g cs w) (hg : w.grownBy w' row) (hne : some g ≠ row) : Box g cs w' :=
  ⟨Nat.lt_of_lt_of_le h.1 hg.size, fun i => (World.frozen?_of_block (w := w) (hg.block g h.1 hne)).trans (h.2.1 i), fun i u e => (World.cell?_of_block (w := w) (hg.block g h.1 hne)).trans (h.2.2 i u e)⟩
theorem Box.drew {g : Nat} {cs : List Value} {w : World} (h : Box g cs w) : Box g cs w.drew := h
/-- The instructions ahead of place (b, k), turned by f. -/
def cur (f : LI → LI) (bs : List LB) (b k : Nat) : List LB := bs.mapIdx fun i c => { c with code := c.code.mapIdx fun j x => if i < b ∨ i = b ∧ j < k then f x else x }
theorem Past.kept {B : Nat} {W w w' : World} {row : Option Nat} (h : Past B W w) (hg : w.grownBy w' row) (hr : ∀ g, row = some g → B ≤ g) : Past B W w' := h.grownRow hg hr
instance : Inhabited LI := ⟨(default, [])⟩
instance : Inhabited LB := ⟨⟨none, 0, 0, []⟩⟩
instance : Inhabited LFn := ⟨⟨⟨#[]⟩, none, 0, 0, [], 0, none, 0, 0, []⟩⟩
instance : Inhabited LExt := ⟨⟨⟨#[]⟩, none, 0, 0, [], 0⟩⟩
instance : Inhabited PVar := ⟨⟨⟨#[]⟩, 0⟩⟩
theorem cellAt_of {w : World} {a : Addr} {i m : Nat} {cs : List Value} (h : ∀ j (hj : j < m), w.cell? ((a.add (i * m)).add j) = cs[j]?) : ∀ r, r < m → w.cell? (a.add (i * m + r)) = cs[r]? := by
  intro r hr
  have h1 := h r hr
  have e : (a.add (i * m)).add r = a.add (i * m + r) := by
    by_cases h0 : r = 0
    · subst h0; rw [add_zero, Nat.add_zero]
    · rw [add_pos _ r h0, add_add a _ r h0]
  rw [e] at h1
  exact h1
theorem sum_range {α : Type} (f : Nat → α) (g : α → Nat) (n : Nat) : (((List.range n).map f).map g).sum = ((List.range n).map fun i => g (f i)).sum := by rw [List.map_map]; rfl
section
variable {H : Type} {enc : TypeId × Value → H} {W : World} {sp : Nat → Bool} {held : Bool}
theorem open_list {α : Type} [Inhabited α] {t e : TypeId} {m : Nat} (hm : 0 < m) (cel : α → List Value) (hc : ∀ x, (cel x).length = m) (E : Nat → World → α → Prop) (P : α → Prop) (z : α → Nat) (ht : Try.prog.underlying t = some (.slice e)) (hce : Try.prog.cellsOf e = m)
    (hel : ∀ (n : Nat) (cs : List Value) (y : DataW H × List MemPlace), cs.length = m → DataW.trod enc Try.prog W 0 sp held n e cs = some y → ∃ x : α, cs = cel x ∧ E W.heap.size W x ∧ P x ∧ z x ≤ Rows.uptoBulk y.1)
    {n : Nat} {c : Value} {y : DataW H × List MemPlace} (h : DataW.trod enc Try.prog W 0 sp held n t [c] = some y) :
    ∃ (p : Option Addr) (k : Nat) (xs : List α), c = .slice p xs.length k ∧ ListIn cel E W.heap.size W p xs.length k xs ∧ (∀ x ∈ xs, P x) ∧ (xs.map z).sum ≤ Rows.uptoBulk y.1 ∧ xs.length ≤ Rows.uptoBulk y.1 := by
  rcases open_slice ht h with ⟨hcc, hx⟩ | ⟨a, len, cap, k, n', D, Pl, hcc, hb, hl, hmm, hk, hx, hi⟩
  · exact ⟨none, 0, [], (List.cons.inj hcc).1, ⟨rfl, Nat.le_refl _, Nat.zero_le _, fun j u hu => by simp at hu, fun x hx => absurd hx (by simp)⟩, fun x hx => absurd hx (by simp), Nat.zero_le _, Nat.zero_le _⟩
  · have lm : len ≤ k := by rw [hk]; split <;> omega
    rw [hce] at hi
    obtain ⟨f, hf⟩ := choose_lt (α := α) (p := fun i x => (a.block < W.heap.size ∧ ∀ r, r < m → W.cell? (a.add (i * m + r)) = (cel x)[r]?) ∧ E W.heap.size W x ∧ P x ∧ z x ≤ Rows.uptoBulk (D i)) (n := len) (fun i hi2 => by
      obtain ⟨cs', h1, h2⟩ := hi i (by omega)
      obtain ⟨_, hlen, hcell⟩ := World.cells?_some h1
      obtain ⟨x, hx, hE, hP, hz⟩ := hel _ cs' _ hlen h2
      refine ⟨x, ⟨?_, ?_⟩, hE, hP, hz⟩
      · have h0 := hcell 0 (by omega)
        rw [List.getElem?_eq_getElem (by omega)] at h0
        have := block_lt h0
        rw [add_block, add_block] at this
        exact this
      · rw [← hx]
        exact cellAt_of (fun j hj => hcell j (by omega)))
    refine ⟨some a, cap, (List.range len).map f, by simp [(List.cons.inj hcc).1], ⟨rfl, by simpa using hl, hmm, rowAt_of hc hm (fun i hi2 => ?_), fun x hx2 => ?_⟩, fun x hx2 => ?_, ?_, ?_⟩
    · have hi3 : i < len := by simpa using hi2
      exact ⟨a, rfl, (hf i hi3).1.1, by simpa using (hf i hi3).1.2⟩
    · obtain ⟨i, hi2, rfl⟩ := List.mem_map.1 hx2
      exact (hf i (List.mem_range.1 hi2)).2.1
    · obtain ⟨i, hi2, rfl⟩ := List.mem_map.1 hx2
      exact (hf i (List.mem_range.1 hi2)).2.2.1
    · subst hx
      have h1 := bulk_sum D (fun i => z (f i)) len (fun i hi2 => (hf i hi2).2.2.2)
      have h2 := bulk_slice ((List.range len).map D) ((List.range (k - len)).map fun j => D (len + j))
      rw [sum_range]
      exact Nat.le_trans h1 h2
    · subst hx
      have h1 := bulk_sum D (fun _ => 1) len (fun i _ => bulk_pos _)
      have h2 := bulk_slice ((List.range len).map D) ((List.range (k - len)).map fun j => D (len + j))
      have e := sum_ones len
      simp only [List.length_map, List.length_range]
      omega
end
end Go.Proofs.Ytpjfkmaceaikbaa
namespace Go.Proofs.Ytpjfkmaceaikbaa
open Go.RowKit Go.Maps
set_option linter.unusedVariables false
set_option linter.unusedSimpArgs false

/-- A bool that says whether p; and nothing that was there has changed. -/
def Tells (p : Prop) (W : World) (e : Ending) (w' : World) : Prop := ∃ b : Bool, e = .returned (.bool b) ∧ (b = true ↔ p) ∧ Below W.heap.size W w'
theorem Tells.imp {p q : Prop} {W : World} {e : Ending} {w' : World} (h : Tells p W e w') (hpq : p ↔ q) : Tells q W e w' := by
  obtain ⟨b, h1, h2, h3⟩ := h
  exact ⟨b, h1, h2.trans hpq, h3⟩
theorem arg_row {B : Nat} {w : World} {p : Option Addr} {n c : Nat} {L : List Arg} (h : ListIn argC NoMem B w p n c L) (i : Nat) (hi : i < L.length) : ∃ a, p = some a ∧ a.block < B ∧ ArgAt w (a.add (i * 3)) L[i] := by
  obtain ⟨h1, h2, h3, h4, -⟩ := h
  obtain ⟨a, e, ha, hc⟩ := h4.at (m := 3) (fun _ => rfl) i hi (by decide)
  refine ⟨a, e, ha, hc 0 (by decide), ?_, ?_⟩
  · have := hc 1 (by decide); rw [add_add a _ 1 (by decide)] at this; exact this
  · have := hc 2 (by decide); rw [add_add a _ 2 (by decide)] at this; exact this
/-- The row lies where it lay, or in a new block. -/
def Moved (w : World) (v v' : Value) : Prop := v'.ownBlock = v.ownBlock ∨ v'.ownBlock = some w.heap.size
theorem append_where {P : Program} (w : World) (base : Nat) (t ty e : TypeId) (i : TypeInfo) (z : Value) (size bytes : Nat) (ht : P.underlying t = some (.slice e)) (hi : P.info? e = some i) (hz : i.zero = some z)
    (hsize : i.size = size) (hby : i.bytes = bytes) (hsz : 0 < size) (v : Value) (n : Nat) (xs : List Value) (hown : w.ownsRow base e size v n xs)
    (a : Addr) (m c : Nat) (news : List Value) (hl : news.length = m * size) (hnews : ∀ j u, news[j]? = some u → w.cell? (a.add j) = some u) (h1 : ∀ u ∈ news, u.oneCell' = true)
    (h63 : n + m ≤ maxLen) (hbytes : (n + m) * bytes ≤ 140737488355328) (v' : Value) (w' : World) (hr : (Builtin.append_ #[t, t] ty #[v, .slice (some a) m c]).run P w = .ok v' w') : Moved w v v' := by
  subst hsize
  subst hby
  have hsmall : n + m ≤ 9223372036854775807 := by simp only [maxLen] at h63; omega
  rcases hown.2 with ⟨rfl, rfl⟩ | ⟨g, cap, cur, rfl, hbg, hg, hnc, hcm, hcs, htake⟩
  · by_cases hm : m = 0
    · subst hm
      have hn : news = [] := List.eq_nil_of_length_eq_zero (by simpa using hl)
      subst hn
      have hr2 : (Builtin.append_ #[t, t] ty #[.slice none 0 0, .slice (some a) 0 c]).run P w = .ok (.slice none 0 0) w := by
        simp [Builtin.append_, run_underlying ht, sizeOf, typeInfo, hi, Builtin.lenOf, Builtin.firstCells, loadCells, loadCellsFrom]
      rw [hr2] at hr
      injection hr with e1 e2
      rw [← e1]
      exact .inl rfl
    · have hr2 := run_append_nil (P := P) w t ty e i z ht hi hz a m c news hl hnews (by omega) (by omega) (by have hb := hbytes; simp only [Nat.zero_add] at hb; omega)
      rw [hr2] at hr
      injection hr with e1 e2
      rw [← e1]
      exact .inr rfl
  · by_cases hroom : n + m ≤ cap
    · have hfit : n * i.size + news.length ≤ cur.size := by rw [hl, hcs, ← Nat.add_mul]; exact Nat.mul_le_mul_right _ hroom
      have hr2 := run_append_room (P := P) w t ty e i ht hi g n cap cur hg a m c news hl hnews h1 hroom hfit
      rw [hr2] at hr
      injection hr with e1 e2
      rw [← e1]
      exact .inl rfl
    · have holds : ∀ j u, xs[j]? = some u → w.cell? ((⟨g, 0, none⟩ : Addr).add j) = some u := hown.cells (g := g) rfl
      have hr2 := run_append_grow (P := P) w t ty e i z ht hi hz ⟨g, 0, none⟩ n cap xs hown.1 holds a m c news hl hnews (by omega) (by omega) (growslice_fits (by omega) hbytes)
      rw [hr2] at hr
      injection hr with e1 e2
      rw [← e1]
      exact .inr rfl
theorem wpList_append_at {P : Program} {w : World} {ops : Array Oper} {rest : List Oper} {o : Oper} {a : Act} {Q : Exit → Act → World → Prop} (hgd : o.guard = none) (s x : Operand) (t : TypeId)
    (ho : o.op = .call { callee := .builtin .append, args := #[s, x], argTypes := #[t, t] })
    (base : Nat) (e : TypeId) (i : TypeInfo) (z : Value) (size bytes : Nat) (ht : P.underlying t = some (.slice e)) (hi : P.info? e = some i) (hz : i.zero = some z)
    (hsize : i.size = size) (hby : i.bytes = bytes) (hzs : z.cells.size = size) (hsz : 0 < size)
    (v : Value) (n : Nat) (xs : List Value) (hs : a.eval s = v) (hown : w.ownsRow base e size v n xs)
    (p : Option Addr) (m c : Nat) (news : List Value) (hx : a.eval x = .slice p m c) (hl : news.length = m * size) (hnews : ∀ j u, news[j]? = some u → ∃ ad, p = some ad ∧ w.cell? (ad.add j) = some u) (h1 : ∀ u ∈ news, u.oneCell' = true)
    (h63 : n + m ≤ maxLen) (hbytes : (n + m) * bytes ≤ 140737488355328) (hbase : base ≤ w.heap.size)
    (h : ∀ v' w', w'.ownsRow base e size v' (n + m) (xs ++ news) → w.grownBy w' v.ownBlock → Moved w v v' → wpList P ops Q rest (a.put o.dst v') w') : wpList P ops Q (o :: rest) a w := by
  refine wpList_plain hgd fun K hK => ?_
  cases p with
  | some ad =>
    have hnews' : ∀ j u, news[j]? = some u → w.cell? (ad.add j) = some u := fun j u hj => by
      obtain ⟨ad', e1, e2⟩ := hnews j u hj
      cases e1
      exact e2
    obtain ⟨v', w', hr, h2, h3, -⟩ := run_append_own (P := P) w base t o.type e i z size bytes ht hi hz hsize hby hzs hsz v n xs hown ad m c news hl hnews' h1 h63 hbytes hbase
    have h4 := append_where w base t o.type e i z size bytes ht hi hz hsize hby hsz v n xs hown ad m c news hl hnews' h1 h63 hbytes v' w' hr
    unfold Oper.wp execOp
    simp only [ho, resolve, invoke, builtin, Sem.run_bind, Sem.run_pure, Result.andThen_ok, List.map_toArray, List.map_cons, List.map_nil, hs, hx, hr]
    exact hK _ _ (h v' w' h2 h3 h4)
  | none =>
    have hn0 : news = [] := by
      cases news with
      | nil => rfl
      | cons u r => obtain ⟨_, e1, _⟩ := hnews 0 u rfl; cases e1
    subst hn0
    obtain rfl : m = 0 := by
      rcases Nat.eq_zero_or_pos m with h0 | h0
      · exact h0
      · have := Nat.mul_pos h0 hsz; simp at hl; omega
    have hr : (Builtin.append_ #[t, t] o.type #[v, .slice none 0 c]).run P w = .ok v w := by
      rcases hown.2 with ⟨rfl, rfl⟩ | ⟨g, cap, cur, rfl, hbg, hg, hnc, hcm, hcs, htake⟩
      · simp [Builtin.append_, run_underlying ht, sizeOf, typeInfo, hi, Builtin.lenOf, Builtin.firstCells]
      · simp [Builtin.append_, run_underlying ht, sizeOf, typeInfo, hi, Builtin.lenOf, Builtin.firstCells, hnc, storeCells]
    unfold Oper.wp execOp
    simp only [ho, resolve, invoke, builtin, Sem.run_bind, Sem.run_pure, Result.andThen_ok, List.map_toArray, List.map_cons, List.map_nil, hs, hx, hr]
    exact hK _ _ (h v w (by rw [List.append_nil]; exact hown) (World.grownBy.refl _ _) (.inl rfl))
/-- Of what was there only the blocks from lo on, ahead of hi, may have turned. -/
structure Out (lo hi : Nat) (w w' : World) : Prop where
  os : w'.os = w.os
  tape : w'.tape = w.tape
  output : w'.output = w.output
  size : w.heap.size ≤ w'.heap.size
  block : ∀ k, k < w.heap.size → (k < lo ∨ hi ≤ k) → w'.heap[k]? = w.heap[k]?
theorem Out.refl (lo hi : Nat) (w : World) : Out lo hi w w := ⟨rfl, rfl, rfl, Nat.le_refl _, fun _ _ _ => rfl⟩
theorem Out.trans {lo hi : Nat} {a b c : World} (h : Out lo hi a b) (k : Out lo hi b c) : Out lo hi a c :=
  ⟨k.os.trans h.os, k.tape.trans h.tape, k.output.trans h.output, Nat.le_trans h.size k.size, fun i hi ho => (k.block i (Nat.lt_of_lt_of_le hi h.size) ho).trans (h.block i hi ho)⟩
theorem Out.mono {lo hi lo' hi' : Nat} {w w' : World} (h : Out lo hi w w') (hl : lo' ≤ lo) (hh : hi ≤ hi') : Out lo' hi' w w' := ⟨h.os, h.tape, h.output, h.size, fun k hk ho => h.block k hk (by omega)⟩
theorem Out.grown {lo hi : Nat} {w w' : World} {row : Option Nat} (h : w.grownBy w' row) (hr : ∀ g, row = some g → lo ≤ g ∧ g < hi) : Out lo hi w w' := ⟨h.os, h.tape, h.output, h.size, fun k hk ho => h.block k hk (fun e => by have := hr k e.symm; omega)⟩
theorem Out.alloc {lo hi : Nat} {w w' : World} (h : Out lo hi w w') (o : Obj) : Out lo hi w (w'.alloc o) := h.trans (Out.grown (World.grownBy_alloc w' o none) (fun g e => by cases e))
theorem Out.box {lo hi g : Nat} {cs : List Value} {w w' : World} (h : Box g cs w) (ho : Out lo hi w w') (hg : g < lo ∨ hi ≤ g) : Box g cs w' :=
  ⟨Nat.lt_of_lt_of_le h.1 ho.size, fun i => (World.frozen?_of_block (w := w) (ho.block g h.1 hg)).trans (h.2.1 i), fun i u e => (World.cell?_of_block (w := w) (ho.block g h.1 hg)).trans (h.2.2 i u e)⟩
theorem Out.stay {lo hi a b : Nat} {w w' : World} (h : Out lo hi w w') (hb : b ≤ w.heap.size) (hab : b ≤ lo ∨ hi ≤ a) : Stay a b w w' := fun k h1 h2 => h.block k (by omega) (by omega)
theorem Out.below {lo hi B : Nat} {w w' : World} (h : Out lo hi w w') (hB : B ≤ lo) (hw : B ≤ w.heap.size) : Below B w w' := ⟨h.os, h.tape, h.output, h.size, fun k hk => h.block k (by omega) (by omega)⟩
theorem ListOwn.put {α : Type} {ty m : Nat} {cel : α → List Value} {Q : Nat → Nat → World → α → Prop} (hQ : Local Q) (hm : 0 < m) (hc : ∀ x, (cel x).length = m) {a b g : Nat} {w : World} {n c : Nat} {xs : List α} (h : ListOwn ty m cel Q a b w (some ⟨g, 0, none⟩) n c xs) (i : Nat) (hi : i < xs.length) (y : α) (hy : ∀ a' b' w', a' ≤ b' → Q a' b' w' y) :
    ListOwn ty m cel Q a b (w.setCells g (i * m) (cel y)) (some ⟨g, 0, none⟩) n c (xs.set i y) ∧ a ≤ g ∧ g < b := by
  obtain ⟨h1, h2, h3, h4⟩ := h
  obtain ⟨a', b', k1, k2, k3, k4, k5, k6⟩ := h4.at hQ i hi
  have hset := setCells_own (cel y) (i * m) h2
  rw [sets_flat cel m hm hc xs i hi y] at hset
  exact ⟨⟨by rw [List.length_set]; exact h1, hset, h3, k6 _ y (fun k _ _ e _ => setCells_heap g (cel y) (i * m) w k (fun e2 => e (by rw [e2]; rfl))) (hy _ _ _ k2)⟩, (h2.lt g rfl).1, h3 g rfl⟩
/-- What is owned in the blocks from a on, ahead of b. -/
abbrev Owned := Nat × Nat × (World → Prop)
/-- Boxes and what is owned, at a later world. -/
structure Stands (W : World) (R : List (Nat × List Value)) (O : List Owned) (w : World) : Prop where
  past : Past W.heap.size W w
  box : ∀ x ∈ R, Box x.1 x.2 w
  own : ∀ x ∈ O, x.2.2 w ∧ (∀ u u', Stay x.1 x.2.1 u u' → x.2.2 u → x.2.2 u') ∧ x.2.1 ≤ w.heap.size ∧ W.heap.size ≤ x.1
theorem Stands.start (W : World) : Stands W [] [] W := ⟨Past.refl (Nat.le_refl _), fun x h => absurd h (by simp), fun x h => absurd h (by simp)⟩
section
variable {W w w' : World} {R R' : List (Nat × List Value)} {O O' : List Owned}
theorem Stands.later (h : Stands W R O w) (hb : Below w.heap.size w w') : Stands W R O w' :=
  ⟨h.past.trans ⟨h.past.size, hb.mono h.past.size⟩, fun x hx => (h.box x hx).later hb, fun x hx => by
    obtain ⟨h1, hl, h2, h3⟩ := h.own x hx
    exact ⟨hl _ _ (below_stay hb h2) h1, hl, Nat.le_trans h2 hb.size, h3⟩⟩
theorem Stands.alloc (h : Stands W R O w) (o : Obj) : Stands W R O (w.alloc o) := h.later ((Below.refl _ _).alloc (Nat.le_refl _) o)
theorem Stands.drew (h : Stands W R O w) : Stands W R O w.drew := h.later (below_drew (Below.refl _ _))
theorem Stands.put (h : Stands W R O w) (cs : List Value) (t : TypeId) : Stands W ((w.heap.size, cs) :: R) O (w.alloc (.cells cs.toArray t)) :=
  ⟨(h.alloc _).past, fun x hx => by
    rcases List.mem_cons.1 hx with rfl | hx
    · exact Box.new w rfl cs t
    · exact (h.alloc _).box x hx, (h.alloc _).own⟩
theorem Stands.out (h : Stands W R O w) {lo hi : Nat} (ho : Out lo hi w w') (hlo : W.heap.size ≤ lo) (hR : ∀ x ∈ R, x.1 < lo ∨ hi ≤ x.1) (hO : ∀ x ∈ O, x.2.1 ≤ lo ∨ hi ≤ x.1) : Stands W R O w' :=
  ⟨h.past.trans ⟨h.past.size, ho.below hlo h.past.size⟩, fun x hx => Out.box (h.box x hx) ho (hR x hx), fun x hx => by
    obtain ⟨h1, hl, h2, h3⟩ := h.own x hx
    exact ⟨hl _ _ (ho.stay h2 (hO x hx)) h1, hl, Nat.le_trans h2 ho.size, h3⟩⟩
theorem Stands.get (h : Stands W R O w) {b : Nat} {cs : List Value} (hb : (b, cs) ∈ R) (i : Nat) (u : Value) (e : cs[i]? = some u) : w.cell? ⟨b, i, none⟩ = some u := (h.box _ hb).get i u e
theorem Stands.lt (h : Stands W R O w) {b : Nat} {cs : List Value} (hb : (b, cs) ∈ R) : b < w.heap.size := (h.box _ hb).1
end
/-- A list of the call's own that grows: its row, and each element's memory. -/
structure Grows {α : Type} (ty m : Nat) (cel : α → List Value) (Q : Nat → Nat → World → α → Prop) (d : Nat) (ys : List α) (q : Option Addr) (c : Nat) (w : World) : Prop where
  dw : d ≤ w.heap.size
  row : w.ownsRow d ty m (.slice q ys.length c) ys.length (ys.flatMap cel)
  sp : Spread Q (Value.slice q ys.length c).ownBlock d w.heap.size w ys
section
variable {α : Type} {ty m : Nat} {cel : α → List Value} {Q : Nat → Nat → World → α → Prop} {d : Nat} {ys : List α} {q : Option Addr} {c : Nat} {w w' : World}
theorem Grows.start (w : World) (hd : d ≤ w.heap.size) : Grows ty m cel Q d [] none 0 w := ⟨hd, World.ownsRow_nil _ _ _ _, hd⟩
theorem Grows.later (hQ : Local Q) (h : Grows ty m cel Q d ys q c w) (hb : Below w.heap.size w w') : Grows ty m cel Q d ys q c w' :=
  ⟨Nat.le_trans h.dw hb.size, ownsRow_below h.row hb, (h.sp.stay hQ (fun k _ hk _ => hb.block k hk)).up hb.size⟩
theorem Grows.set (hQ : Local Q) (h : Grows ty m cel Q d ys q c w) {a : Addr} (ha : a.block < d) (v : Value) : Grows ty m cel Q d ys q c (w.setCell a v) :=
  ⟨by simpa [World.setCell] using h.dw, ownsRow_set h.row ha v, by
    have e : (w.setCell a v).heap.size = w.heap.size := by simp [World.setCell]
    rw [e]
    exact h.sp.stay hQ (fun k hk _ _ => Below.heap_setCell _ _ _ _ (by omega))⟩
theorem Grows.own {lo : Nat} (h : Grows ty m cel Q d ys q c w) : ListOwn ty m cel Q d w.heap.size w q ys.length c ys := own_intro rfl h.row rfl h.sp
end
/-- A value. -/
structure Vl where
  k : Int
  b : Int
  bk : Int
  o : Int
/-- A byte. -/
structure By where
  k : Int
  b : Int
  bk : Int
  o : Int
  i : Int
def vlC (v : Vl) : List Value := [.int .i64 v.k, .int .u64 v.b, .int .i64 v.bk, .int .i64 v.o]
def Vl.val (v : Vl) : Value := .agg #[.int .i64 v.k, .int .u64 v.b, .int .i64 v.bk, .int .i64 v.o]
def By.val (y : By) : Value := .agg #[.int .i64 y.k, .int .u8 y.b, .int .i64 y.bk, .int .i64 y.o, .int .i64 y.i]
/-- The number of a value, of a byte is one of its type. -/
def Vl.ok (v : Vl) : Prop := 0 ≤ v.b ∧ v.b ≤ 18446744073709551615
def By.ok (y : By) : Prop := 0 ≤ y.b ∧ y.b ≤ 255
def p0 : Vl := ⟨0, 0, 0, 0⟩
def q0 : By := ⟨0, 0, 0, 0, 0⟩
/-- How many bytes a type has. -/
def wd (t : Int) : Nat := if isW t then (t.toNat + 7) / 8 else if t = 65 then 8 else 0
theorem wd_pos (t : Int) : 0 < wd t ↔ 1 ≤ t ∧ t ≤ 65 := by
  unfold wd
  by_cases h : isW t = true
  · rw [if_pos h]; have := isW_iff.1 h; omega
  · rw [if_neg h]
    have h2 : ¬ (1 ≤ t ∧ t ≤ 64) := fun x => h (isW_iff.2 x)
    split <;> omega
theorem wd_in {t : Int} (h1 : 1 ≤ t) (h2 : t ≤ 64) : wd t = (t.toNat + 7) / 8 := by unfold wd; rw [if_pos (isW_iff.2 ⟨h1, h2⟩)]
/-- A value as one of a type. -/
def norm (t : Int) (v : Vl) : Vl :=
  if v.k = 1 ∧ isW t = true then ⟨1, v.b % pw t.toNat, 0, 0⟩ else if v.k = 2 ∧ t = 65 then ⟨2, 0, v.bk, v.o⟩ else if v.k = 3 ∧ 0 < wd t then ⟨3, 0, 0, 0⟩ else p0
/-- The number that bytes write, the lowest first. -/
def num : List By → Int
  | [] => 0
  | y :: l => y.b + 256 * num l
/-! A value comes back from its bytes. -/
theorem norm_num {t : Int} {v : Vl} (h : v.k = 1) (ht : isW t = true) : norm t v = ⟨1, v.b % pw t.toNat, 0, 0⟩ := by unfold norm; rw [if_pos ⟨h, ht⟩]
theorem norm_addr {v : Vl} (h : v.k = 2) : norm 65 v = ⟨2, 0, v.bk, v.o⟩ := by unfold norm; rw [if_neg (fun x => by rw [h] at x; exact absurd x.1 (by decide)), if_pos ⟨h, rfl⟩]
theorem norm_any {t : Int} {v : Vl} (h : v.k = 3) (ht : 0 < wd t) : norm t v = ⟨3, 0, 0, 0⟩ := by
  unfold norm; rw [if_neg (fun x => by rw [h] at x; exact absurd x.1 (by decide)), if_neg (fun x => by rw [h] at x; exact absurd x.1 (by decide)), if_pos ⟨h, ht⟩]
theorem isNumber_any (w : Int) (wd : World) :
    Calls Try.prog 37 #[.int .i64 w] wd fun e w' => e = .returned (.bool (isW w)) ∧ wd = w' := by
  by_cases h1 : 1 ≤ w <;> by_cases h2 : w ≤ 64
  all_goals
    go_enter Try.func37, Try.ntmps37
    go_wp2
    go_ret
    exact ⟨by simp [isW, h1, h2], rfl⟩
theorem width_raw {t : Int} (h1 : 1 ≤ t) (h2 : t ≤ 64) : (t + 7) / 8 = wd t := by rw [wd_in h1 h2]; omega
theorem width_any (t : Int) (W : World) :
    Calls Try.prog 39 #[.int .i64 t] W fun e w' => e = .returned (.int .i64 (wd t)) ∧ W = w' := by
  by_cases hw : isW t = true
  · obtain ⟨h1, h2⟩ := isW_iff.1 hw
    have hr := width_raw h1 h2
    have HQ := Lib.hid hr
    clear hr
    go_enter Try.func39, Try.ntmps39
    go_wp2_with (go_at_call 37; refine (isNumber_any _ _).mono ?_; rintro e w' ⟨rfl, rfl⟩)
    go_ret
    exact ⟨ret_int HQ.out, rfl⟩
  · have hw' : isW t = false := by simpa using hw
    clear hw
    by_cases ht : t = 65
    · subst ht
      go_enter Try.func39, Try.ntmps39
      go_wp2_with (go_at_call 37; refine (isNumber_any _ _).mono ?_; rintro e w' ⟨rfl, rfl⟩)
      go_ret
      exact ⟨ret_int rfl, rfl⟩
    · have e0 : wd t = 0 := by unfold wd; rw [hw', if_neg (by decide), if_neg ht]
      have g1 : (t == 65) = false := by simpa using ht
      rw [e0]
      clear e0 ht
      go_enter Try.func39, Try.ntmps39
      go_wp2_with (go_at_call 37; refine (isNumber_any _ _).mono ?_; rintro e w' ⟨rfl, rfl⟩)
      go_ret
      exact ⟨rfl, rfl⟩
theorem bV0 (w : World) : (Instr.build 35 #[]).run Try.prog w = .ok (.agg #[.int .i64 0, .int .u64 0, .int .i64 0, .int .i64 0]) w := run_build _ _ _ _ (by kernel_rfl)
theorem bV1 (w : World) (k : Int) : (Instr.build 35 #[(0, .int .i64 k)]).run Try.prog w = .ok (.agg #[.int .i64 k, .int .u64 0, .int .i64 0, .int .i64 0]) w := run_build _ _ _ _ (by kernel_rfl)
theorem bV2 (w : World) (k b : Int) : (Instr.build 35 #[(0, .int .i64 k), (1, .int .u64 b)]).run Try.prog w = .ok (.agg #[.int .i64 k, .int .u64 b, .int .i64 0, .int .i64 0]) w := run_build _ _ _ _ (by kernel_rfl)
theorem bV3 (w : World) (k b o : Int) : (Instr.build 35 #[(0, .int .i64 k), (2, .int .i64 b), (3, .int .i64 o)]).run Try.prog w = .ok (.agg #[.int .i64 k, .int .u64 0, .int .i64 b, .int .i64 o]) w := run_build _ _ _ _ (by kernel_rfl)
theorem below1 (W : World) (o : Obj) : Below W.heap.size W (W.alloc o) := (Below.refl _ _).alloc (Nat.le_refl _) _
theorem below2 (W : World) (o o' : Obj) : Below W.heap.size W ((W.alloc o).alloc o') := (below1 W o).alloc (below1 W o).size _
theorem below3 (W : World) (o o' o2 : Obj) : Below W.heap.size W (((W.alloc o).alloc o').alloc o2) := (below2 W o o').alloc (below2 W o o').size _
set_option maxHeartbeats 1000000 in
theorem Norm_any (t : Int) (v : Vl) (W : World) (hv : v.ok) :
    Calls Try.prog 18 #[.int .i64 t, v.val] W fun e w' => e = .returned (norm t v).val ∧ Below W.heap.size W w' := by
  obtain ⟨k, b, bk, o⟩ := v
  have c1 := fun w W => isNumber_any w W
  have c2 := fun w W => Mask_any w W
  have c3 := fun w W => width_any w W
  have b0 := bV0
  have b1 := bV1
  have b2 := bV2
  have b3 := bV3
  show Calls _ _ #[.int .i64 t, .agg #[.int .i64 k, .int .u64 b, .int .i64 bk, .int .i64 o]] W _
  by_cases k1 : k = 1
  · subst k1
    cases ht : isW t with
    | true =>
      have e := norm_num (t := t) (v := ⟨1, b, bk, o⟩) rfl ht
      rw [e]
      have hI := isW_iff.1 ht
      have hm := and_msk t b hI.1 hI.2 hv.1 (by have := hv.2; simp only at this; omega)
      show Calls _ _ _ W fun e w' => e = .returned (.agg #[.int .i64 1, .int .u64 (b % pw t.toNat), .int .i64 0, .int .i64 0]) ∧ _
      rw [← hm]
      clear e hm hI hv
      go_enter Try.func18, Try.ntmps18
      go_wp2_with (first | ((with_reducible refine (c1 _ _).mono ?_); rintro e w' ⟨rfl, rfl⟩))
      go_region_with ((with_reducible refine (c2 _ _).mono ?_); rintro e w' ⟨rfl, rfl⟩)
      all_goals
        go_wp2_with fail
        exact bodyPost_ret (v := .agg #[.int .i64 1, .int .u64 (bits BinOp.and IntKind.u64 b (msk t)), .int .i64 0, .int .i64 0]) (by simp [results, Try.results18, go_sem]) rfl ⟨rfl, (below2 W _ _).drew⟩
    | false =>
      have e : norm t ⟨1, b, bk, o⟩ = p0 := by unfold norm; rw [if_neg (fun x => by rw [ht] at x; exact absurd x.2 (by decide)), if_neg (fun x => absurd (show (1 : Int) = 2 from x.1) (by decide)), if_neg (fun x => absurd (show (1 : Int) = 3 from x.1) (by decide))]
      rw [e]
      show Calls _ _ _ W fun e w' => e = .returned (.agg #[.int .i64 0, .int .u64 0, .int .i64 0, .int .i64 0]) ∧ _
      clear e hv
      go_enter Try.func18, Try.ntmps18
      go_wp2_with (first | ((with_reducible refine (c1 _ _).mono ?_); rintro e w' ⟨rfl, rfl⟩) | ((with_reducible refine (c3 _ _).mono ?_); rintro e w' ⟨rfl, rfl⟩))
      exact bodyPost_ret (v := .agg #[.int .i64 0, .int .u64 0, .int .i64 0, .int .i64 0]) (by simp [results, Try.results18, go_sem]) rfl ⟨rfl, below2 W _ _⟩
  · by_cases k2 : k = 2
    · subst k2
      clear k1 hv
      by_cases ht : t = 65
      · subst ht
        rw [norm_addr (v := ⟨2, b, bk, o⟩) rfl]
        show Calls _ _ _ W fun e w' => e = .returned (.agg #[.int .i64 2, .int .u64 0, .int .i64 bk, .int .i64 o]) ∧ _
        go_enter Try.func18, Try.ntmps18
        go_wp2_with (first | ((with_reducible refine (c1 _ _).mono ?_); rintro e w' ⟨rfl, rfl⟩) | ((with_reducible refine (c3 _ _).mono ?_); rintro e w' ⟨rfl, rfl⟩))
        exact bodyPost_ret (v := .agg #[.int .i64 2, .int .u64 0, .int .i64 bk, .int .i64 o]) (by simp [results, Try.results18, go_sem]) rfl ⟨rfl, below2 W _ _⟩
      · have e : norm t ⟨2, b, bk, o⟩ = p0 := by unfold norm; rw [if_neg (fun x => absurd (show (2 : Int) = 1 from x.1) (by decide)), if_neg (fun x => ht x.2), if_neg (fun x => absurd (show (2 : Int) = 3 from x.1) (by decide))]
        rw [e]
        have g1 : (t == 65) = false := by simpa using ht
        clear e ht
        show Calls _ _ _ W fun e w' => e = .returned (.agg #[.int .i64 0, .int .u64 0, .int .i64 0, .int .i64 0]) ∧ _
        go_enter Try.func18, Try.ntmps18
        go_wp2_with (first | ((with_reducible refine (c1 _ _).mono ?_); rintro e w' ⟨rfl, rfl⟩) | ((with_reducible refine (c3 _ _).mono ?_); rintro e w' ⟨rfl, rfl⟩))
        exact bodyPost_ret (v := .agg #[.int .i64 0, .int .u64 0, .int .i64 0, .int .i64 0]) (by simp [results, Try.results18, go_sem]) rfl ⟨rfl, below2 W _ _⟩
    · by_cases k3 : k = 3
      · subst k3
        clear k1 k2 hv
        by_cases hp : 0 < wd t
        · rw [norm_any (v := ⟨3, b, bk, o⟩) rfl hp]
          have hd : decide ((0 : Int) < (wd t : Int)) = true := decide_eq_true (by omega)
          have hp2 : (0 : Int) < (wd t : Int) := by omega
          obtain ⟨z, hz⟩ : ∃ z : Int, (wd t : Int) = z := ⟨_, rfl⟩
          simp only [hz] at hd hp2
          clear hp
          show Calls _ _ _ W fun e w' => e = .returned (.agg #[.int .i64 3, .int .u64 0, .int .i64 0, .int .i64 0]) ∧ _
          have c4 : ∀ W, Calls Try.prog 39 #[.int .i64 t] W fun e w' => e = .returned (.int .i64 z) ∧ W = w' := fun W => by
            have := c3 t W
            simp only [hz] at this
            exact this
          clear c3
          go_enter Try.func18, Try.ntmps18
          go_wp2_with (first | ((with_reducible refine (c1 _ _).mono ?_); rintro e w' ⟨rfl, rfl⟩) | ((with_reducible refine (c4 _).mono ?_); rintro e w' ⟨rfl, rfl⟩))
          exact bodyPost_ret (v := .agg #[.int .i64 3, .int .u64 0, .int .i64 0, .int .i64 0]) (by simp [results, Try.results18, go_sem]) rfl ⟨rfl, below2 W _ _⟩
        · have e : norm t ⟨3, b, bk, o⟩ = p0 := by unfold norm; rw [if_neg (fun x => absurd (show (3 : Int) = 1 from x.1) (by decide)), if_neg (fun x => absurd (show (3 : Int) = 2 from x.1) (by decide)), if_neg (fun x => hp x.2)]
          rw [e]
          have hz : wd t = 0 := by omega
          clear e hp
          show Calls _ _ _ W fun e w' => e = .returned (.agg #[.int .i64 0, .int .u64 0, .int .i64 0, .int .i64 0]) ∧ _
          have c4 : ∀ W, Calls Try.prog 39 #[.int .i64 t] W fun e w' => e = .returned (.int .i64 0) ∧ W = w' := fun W => by
            have := c3 t W
            rw [hz] at this
            exact this
          clear c3 hz
          go_enter Try.func18, Try.ntmps18
          go_wp2_with (first | ((with_reducible refine (c1 _ _).mono ?_); rintro e w' ⟨rfl, rfl⟩) | ((with_reducible refine (c4 _).mono ?_); rintro e w' ⟨rfl, rfl⟩))
          exact bodyPost_ret (v := .agg #[.int .i64 0, .int .u64 0, .int .i64 0, .int .i64 0]) (by simp [results, Try.results18, go_sem]) rfl ⟨rfl, below2 W _ _⟩
      · have e : norm t ⟨k, b, bk, o⟩ = p0 := by unfold norm; rw [if_neg (fun x => k1 x.1), if_neg (fun x => k2 x.1), if_neg (fun x => k3 x.1)]
        rw [e]
        have g1 : (k == 1) = false := by simpa using k1
        have g2 : (k == 2) = false := by simpa using k2
        have g3 : (k == 3) = false := by simpa using k3
        clear e k1 k2 k3 hv
        show Calls _ _ _ W fun e w' => e = .returned (.agg #[.int .i64 0, .int .u64 0, .int .i64 0, .int .i64 0]) ∧ _
        go_enter Try.func18, Try.ntmps18
        go_wp2_with (first | ((with_reducible refine (c1 _ _).mono ?_); rintro e w' ⟨rfl, rfl⟩) | ((with_reducible refine (c3 _ _).mono ?_); rintro e w' ⟨rfl, rfl⟩))
        exact bodyPost_ret (v := .agg #[.int .i64 0, .int .u64 0, .int .i64 0, .int .i64 0]) (by simp [results, Try.results18, go_sem]) rfl ⟨rfl, below2 W _ _⟩
theorem rCut_any (w v : Int) (wd : World) (h1 : 1 ≤ w) (h2 : w ≤ 64) (hv : 0 ≤ v) (hv' : v ≤ 18446744073709551615) :
    Calls Try.prog 48 #[.int .i64 w, .int .u64 v] wd fun e w' => e = .returned (.int .u64 (v % pw w.toNat)) ∧ wd = w' := by
  by_cases h : w = 64
  · subst h
    go_enter Try.func48, Try.ntmps48
    go_wp2
    go_ret
    exact ⟨ret_int (by show v = v % pw 64; rw [pw_64]; omega), rfl⟩
  · have h3 : w < 64 := by omega
    have p1 := pw_pos w.toNat
    have p2 := pw_le63 (n := w.toNat) (by omega)
    have hP : IntKind.u64.wrap (2 ^ w.toNat) = pw w.toNat := by rw [u64w, pw_eq]; omega
    have p3 : ¬ pw w.toNat = 0 := by omega
    clear h
    go_enter Try.func48, Try.ntmps48
    go_wp2
    go_ret
    exact ⟨ret_int rfl, rfl⟩
set_option maxHeartbeats 1000000 in
theorem rNorm_any (t : Int) (v : Vl) (W : World) (hv : v.ok) :
    Calls Try.prog 26 #[.int .i64 t, v.val] W fun e w' => e = .returned (norm t v).val ∧ Below W.heap.size W w' := by
  obtain ⟨k, b, bk, o⟩ := v
  have b0 := bV0
  have b1 := bV1
  have b2 := bV2
  have b3 := bV3
  have HV := Lib.hid hv
  show Calls _ _ #[.int .i64 t, .agg #[.int .i64 k, .int .u64 b, .int .i64 bk, .int .i64 o]] W _
  by_cases hW : 1 ≤ t ∧ t ≤ 64
  · obtain ⟨t1, t2⟩ := hW
    have g0 : (t == 65) = false := by simp; omega
    have g5 : t ≤ 65 := by omega
    by_cases k1 : k = 1
    · subst k1
      rw [norm_num (t := t) (v := ⟨1, b, bk, o⟩) rfl (isW_iff.2 ⟨t1, t2⟩)]
      show Calls _ _ _ W fun e w' => e = .returned (.agg #[.int .i64 1, .int .u64 (b % pw t.toNat), .int .i64 0, .int .i64 0]) ∧ _
      have c1 := fun w => rCut_any t b w t1 t2 HV.out.1 HV.out.2
      clear hv
      go_enter Try.func26, Try.ntmps26
      go_wp2_with (first | ((with_reducible refine (c1 _).mono ?_); rintro e w' ⟨rfl, rfl⟩))
      exact bodyPost_ret (v := .agg #[.int .i64 1, .int .u64 (b % pw t.toNat), .int .i64 0, .int .i64 0]) (by simp [results, Try.results26, go_sem]) rfl ⟨rfl, below2 W _ _⟩
    · have g1 : (k == 1) = false := by simpa using k1
      by_cases k3 : k = 3
      · subst k3
        rw [norm_any (t := t) (v := ⟨3, b, bk, o⟩) rfl ((wd_pos t).2 ⟨t1, g5⟩)]
        show Calls _ _ _ W fun e w' => e = .returned (.agg #[.int .i64 3, .int .u64 0, .int .i64 0, .int .i64 0]) ∧ _
        clear hv k1
        go_enter Try.func26, Try.ntmps26
        go_wp2_with fail
        exact bodyPost_ret (v := .agg #[.int .i64 3, .int .u64 0, .int .i64 0, .int .i64 0]) (by simp [results, Try.results26, go_sem]) rfl ⟨rfl, below2 W _ _⟩
      · have g3 : (k == 3) = false := by simpa using k3
        have e : norm t ⟨k, b, bk, o⟩ = p0 := by unfold norm; rw [if_neg (fun x => k1 x.1), if_neg (fun x => by omega), if_neg (fun x => k3 x.1)]
        rw [e]
        show Calls _ _ _ W fun e w' => e = .returned (.agg #[.int .i64 0, .int .u64 0, .int .i64 0, .int .i64 0]) ∧ _
        clear hv e k1 k3
        go_enter Try.func26, Try.ntmps26
        go_wp2_with fail
        exact bodyPost_ret (v := .agg #[.int .i64 0, .int .u64 0, .int .i64 0, .int .i64 0]) (by simp [results, Try.results26, go_sem]) rfl ⟨rfl, below2 W _ _⟩
  · have hf : isW t = false := isW_not.2 hW
    by_cases ht : t = 65
    · subst ht
      clear hW
      by_cases k2 : k = 2
      · subst k2
        rw [norm_addr (v := ⟨2, b, bk, o⟩) rfl]
        show Calls _ _ _ W fun e w' => e = .returned (.agg #[.int .i64 2, .int .u64 0, .int .i64 bk, .int .i64 o]) ∧ _
        clear hv
        go_enter Try.func26, Try.ntmps26
        go_wp2_with fail
        exact bodyPost_ret (v := .agg #[.int .i64 2, .int .u64 0, .int .i64 bk, .int .i64 o]) (by simp [results, Try.results26, go_sem]) rfl ⟨rfl, below2 W _ _⟩
      · have g2 : (k == 2) = false := by simpa using k2
        by_cases k3 : k = 3
        · subst k3
          rw [norm_any (t := 65) (v := ⟨3, b, bk, o⟩) rfl (by decide)]
          show Calls _ _ _ W fun e w' => e = .returned (.agg #[.int .i64 3, .int .u64 0, .int .i64 0, .int .i64 0]) ∧ _
          clear hv k2
          go_enter Try.func26, Try.ntmps26
          go_wp2_with fail
          exact bodyPost_ret (v := .agg #[.int .i64 3, .int .u64 0, .int .i64 0, .int .i64 0]) (by simp [results, Try.results26, go_sem]) rfl ⟨rfl, below2 W _ _⟩
        · have g3 : (k == 3) = false := by simpa using k3
          have e : norm 65 ⟨k, b, bk, o⟩ = p0 := by unfold norm; rw [if_neg (fun x => by rw [hf] at x; exact absurd x.2 (by decide)), if_neg (fun x => k2 x.1), if_neg (fun x => k3 x.1)]
          rw [e]
          show Calls _ _ _ W fun e w' => e = .returned (.agg #[.int .i64 0, .int .u64 0, .int .i64 0, .int .i64 0]) ∧ _
          clear hv e k2 k3
          go_enter Try.func26, Try.ntmps26
          go_wp2_with fail
          exact bodyPost_ret (v := .agg #[.int .i64 0, .int .u64 0, .int .i64 0, .int .i64 0]) (by simp [results, Try.results26, go_sem]) rfl ⟨rfl, below2 W _ _⟩
    · have e : norm t ⟨k, b, bk, o⟩ = p0 := by
        have := wd_pos t
        unfold norm; rw [if_neg (fun x => by rw [hf] at x; exact absurd x.2 (by decide)), if_neg (fun x => ht x.2), if_neg (fun x => by omega)]
      rw [e]
      have g0 : (t == 65) = false := by simpa using ht
      have HN : t < 1 ∨ 65 < t := by omega
      show Calls _ _ _ W fun e w' => e = .returned (.agg #[.int .i64 0, .int .u64 0, .int .i64 0, .int .i64 0]) ∧ _
      clear hv e hf hW ht
      rcases HN with h1 | h1
      · go_enter Try.func26, Try.ntmps26
        go_wp2_with fail
        exact bodyPost_ret (v := .agg #[.int .i64 0, .int .u64 0, .int .i64 0, .int .i64 0]) (by simp [results, Try.results26, go_sem]) rfl ⟨rfl, below2 W _ _⟩
      · have h2 : ¬ t ≤ 64 := by omega
        have h3 : 1 ≤ t := by omega
        go_enter Try.func26, Try.ntmps26
        go_wp2_with fail
        exact bodyPost_ret (v := .agg #[.int .i64 0, .int .u64 0, .int .i64 0, .int .i64 0]) (by simp [results, Try.results26, go_sem]) rfl ⟨rfl, below2 W _ _⟩
end Go.Proofs.Ytpjfkmaceaikbaa
