/- What is told of any instruction and any operation: package ir, and the document's answers. -/
import Derived.Test.YtpfeiolmkbibiaaIrC
import Derived.LoopN
namespace Go.Proofs.Ytpfeiolmkbibiaa
open Go.RowKit
set_option linter.unusedVariables false
set_option linter.unusedSimpArgs false

def endsB (op : Int) : Bool := decide (31 ≤ op ∧ op ≤ 34)
def idleB (op : Int) : Bool := decide (1 ≤ op ∧ op ≤ 29 ∧ op ≠ 28)
def calmB (op : Int) : Bool := decide (1 ≤ op ∧ op ≤ 29 ∧ op ≠ 4 ∧ op ≠ 5 ∧ op ≠ 6 ∧ op ≠ 7 ∧ op ≠ 25 ∧ op ≠ 26 ∧ op ≠ 27 ∧ op ≠ 28)
def resV (op ty : Int) : Int := if op < 1 ∨ 30 < op ∨ op = 28 then 0 else if op = 26 ∨ op = 29 then 65 else if 14 ≤ op ∧ op ≤ 19 then 1 else ty

theorem Ends_any (op : Int) (W : World) : Calls Try.prog 13 #[.int .i64 op] W fun e w' => e = .returned (.bool (endsB op)) ∧ W = w' := by
  unfold endsB
  go_enter Try.func13, Try.ntmps13
  go_wp2
  all_goals go_ret
  all_goals exact ⟨ret_bool (by rw [Bool.eq_iff_iff]; simp; omega), rfl⟩
theorem rEnds_any (op : Int) (W : World) : Calls Try.prog 14 #[.int .i64 op] W fun e w' => e = .returned (.bool (endsB op)) ∧ W = w' := by
  unfold endsB
  go_enter Try.func14, Try.ntmps14
  go_wp2
  all_goals go_ret
  all_goals exact ⟨ret_bool (by rw [Bool.eq_iff_iff]; simp; omega), rfl⟩
theorem Idle_any (op : Int) (W : World) : Calls Try.prog 15 #[.int .i64 op] W fun e w' => e = .returned (.bool (idleB op)) ∧ W = w' := by
  unfold idleB
  go_enter Try.func15, Try.ntmps15
  go_wp2
  all_goals go_ret
  all_goals exact ⟨ret_bool (by rw [Bool.eq_iff_iff]; simp; omega), rfl⟩
theorem rIdle_any (op : Int) (W : World) : Calls Try.prog 16 #[.int .i64 op] W fun e w' => e = .returned (.bool (idleB op)) ∧ W = w' := by
  unfold idleB
  go_enter Try.func16, Try.ntmps16
  go_wp2
  all_goals go_ret
  all_goals exact ⟨ret_bool (by rw [Bool.eq_iff_iff]; simp; omega), rfl⟩
theorem Calm_any (op : Int) (W : World) : Calls Try.prog 17 #[.int .i64 op] W fun e w' => e = .returned (.bool (calmB op)) ∧ W = w' := by
  have ci := Idle_any op
  have hc : calmB op = (idleB op && !decide (op = 4 ∨ op = 5 ∨ op = 6 ∨ op = 7 ∨ op = 25 ∨ op = 26 ∨ op = 27)) := by unfold calmB idleB; rw [Bool.eq_iff_iff]; simp; omega
  rw [hc]
  clear hc
  generalize idleB op = I at *
  go_enter Try.func17, Try.ntmps17
  go_wp2_with ((with_reducible refine (ci _).mono ?_); rintro e w' ⟨rfl, rfl⟩)
  all_goals go_ret
  all_goals exact ⟨ret_bool (by simp_all), rfl⟩
end Go.Proofs.Ytpfeiolmkbibiaa
