/- Contract of bits.Apply where there is no such operation, width or flag. -/
import Derived.Test.YtpjfkmaceaikbaaBitsI
namespace Go.Proofs.Ytpjfkmaceaikbaa
open Go.RowKit
set_option linter.unusedVariables false
set_option linter.unusedSimpArgs false

theorem Apply_op (op w fl a b : Int) (h : op < 1 ∨ 19 < op) : Gives 69 #[.int .i64 op, .int .i64 w, .int .i64 fl, .int .u64 a, .int .u64 b] (.tuple #[.int .u64 0, .int .i64 3]) := by
  intro W
  rcases h with h | h
  · go_enter Try.func69, Try.ntmps69
    go_wp2
    go_ret2
    exact ⟨ret_two rfl rfl, 0, rfl⟩
  · have h' : ¬ op < 1 := by omega
    go_enter Try.func69, Try.ntmps69
    go_wp2
    go_ret2
    exact ⟨ret_two rfl rfl, 0, rfl⟩
theorem Apply_w (op w fl a b : Int) (o1 : 1 ≤ op) (o2 : op ≤ 19) (h : isW w = false) : Gives 69 #[.int .i64 op, .int .i64 w, .int .i64 fl, .int .u64 a, .int .u64 b] (.tuple #[.int .u64 0, .int .i64 3]) := by
  intro W
  have cW : ∀ W, Calls Try.prog 57 #[.int .i64 w] W fun e w' => e = .returned (.bool false) ∧ W = w' := by intro W; rw [← h]; exact isWidth_any w W
  clear h
  go_enter Try.func69, Try.ntmps69
  go_wp2_with (go_at_call 57; refine (cW _).mono ?_; rintro e w' ⟨rfl, rfl⟩)
  go_ret2
  exact ⟨ret_two rfl rfl, 0, rfl⟩
theorem Apply_fl (op w fl a b : Int) (o1 : 1 ≤ op) (o2 : op ≤ 19) (h1 : 1 ≤ w) (h2 : w ≤ 64) (h : ¬ bits .andNot .i64 fl (flg op) = 0) : Gives 69 #[.int .i64 op, .int .i64 w, .int .i64 fl, .int .u64 a, .int .u64 b] (.tuple #[.int .u64 0, .int .i64 3]) := by
  intro W
  have hw : isW w = true := isW_iff.2 ⟨h1, h2⟩
  have cW : ∀ W, Calls Try.prog 57 #[.int .i64 w] W fun e w' => e = .returned (.bool true) ∧ W = w' := by intro W; rw [← hw]; exact isWidth_any w W
  have cF := Flags_any op
  have h' : (bits .andNot .i64 fl (flg op) != 0) = true := by simpa using h
  generalize flg op = F at *
  clear hw h1 h2 h
  go_enter Try.func69, Try.ntmps69
  go_wp2_with (first | (go_at_call 57; refine (cW _).mono ?_; rintro e w' ⟨rfl, rfl⟩) | (go_at_call 35; refine (cF _).mono ?_; rintro e w' ⟨rfl, rfl⟩))
  go_ret2
  exact ⟨ret_two rfl rfl, 0, rfl⟩
end Go.Proofs.Ytpjfkmaceaikbaa
