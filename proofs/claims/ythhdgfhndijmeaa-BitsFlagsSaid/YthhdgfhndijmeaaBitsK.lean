/- The walks of the law on flags, one for each way in which an operation's flags may end. -/
import Derived.Test.YthhdgfhndijmeaaBitsJ
import Derived.LoopN
namespace Go.Proofs.Ythhdgfhndijmeaa
open Go.RowKit
set_option linter.unusedVariables false

set_option maxHeartbeats 2000000 in
theorem flC (a0 a1 a b o r v : Int) (w : World) (kr : IntKind.u64.wrap a0 % 13 = r) (r0 : 0 ≤ r) (r1 : r ≤ 12) (ko : 1 + r = o)
    (cl : Gives 12 #[] (.bool true)) (cw : Gives 23 #[.int .i64 a1] (.int .i64 v)) (V E : Int) (cF : Gives 15 #[.int .i64 o] (.int .i64 0))
    (c0 : Gives 13 #[.int .i64 o, .int .i64 v, .int .i64 0, .int .u64 a, .int .u64 b] (.tuple #[.int .u64 V, .int .i64 E])) (c1 : Gives 13 #[.int .i64 o, .int .i64 v, .int .i64 1, .int .u64 a, .int .u64 b] (.tuple #[.int .u64 0, .int .i64 3])) (c2 : Gives 13 #[.int .i64 o, .int .i64 v, .int .i64 2, .int .u64 a, .int .u64 b] (.tuple #[.int .u64 0, .int .i64 3])) (c3 : Gives 13 #[.int .i64 o, .int .i64 v, .int .i64 3, .int .u64 a, .int .u64 b] (.tuple #[.int .u64 0, .int .i64 3])) (c4 : Gives 13 #[.int .i64 o, .int .i64 v, .int .i64 4, .int .u64 a, .int .u64 b] (.tuple #[.int .u64 0, .int .i64 3])) (c5 : Gives 13 #[.int .i64 o, .int .i64 v, .int .i64 5, .int .u64 a, .int .u64 b] (.tuple #[.int .u64 0, .int .i64 3])) (c6 : Gives 13 #[.int .i64 o, .int .i64 v, .int .i64 6, .int .u64 a, .int .u64 b] (.tuple #[.int .u64 0, .int .i64 3])) (c7 : Gives 13 #[.int .i64 o, .int .i64 v, .int .i64 7, .int .u64 a, .int .u64 b] (.tuple #[.int .u64 0, .int .i64 3])) :
    Calls Try.prog 7 #[.int .i64 a0, .int .i64 a1, .int .u64 a, .int .u64 b] w fun e w' => e = .returned (.bool true) ∧ Grown w w' := by
  have hw0 : 0 ≤ IntKind.u64.wrap a0 := by rw [u64w]; omega
  have fin : ∀ n, Grown w (w.drewN n) := fun n => grown_drewN w n
  have k1 : bits .andNot .i64 1 0 = 1 := by decide +kernel
  have k2 : bits .andNot .i64 2 0 = 2 := by decide +kernel
  have k3 : bits .andNot .i64 3 0 = 3 := by decide +kernel
  have k4 : bits .andNot .i64 4 0 = 4 := by decide +kernel
  have k5 : bits .andNot .i64 5 0 = 5 := by decide +kernel
  have k6 : bits .andNot .i64 6 0 = 6 := by decide +kernel
  have k7 : bits .andNot .i64 7 0 = 7 := by decide +kernel
  go_enter Try.func7, Try.ntmps7
  go_wp2_with (first | ((with_reducible refine (cl.go _).mono ?_); rintro e w' ⟨rfl, n0, rfl⟩) | ((with_reducible refine (cw.go _).mono ?_); rintro e w' ⟨rfl, n0, rfl⟩) | ((with_reducible refine (c0.go _).mono ?_); rintro e w' ⟨rfl, n0, rfl⟩) | ((with_reducible refine (cF.go _).mono ?_); rintro e w' ⟨rfl, n0, rfl⟩))
  refine wp_loop_rounds 8 ?_
  rw [rounds_succ]
  go_wp2_with (first | ((with_reducible refine (c1.go _).mono ?_); rintro e w' ⟨rfl, n0, rfl⟩))
  rw [rounds_succ]
  go_wp2_with (first | ((with_reducible refine (c2.go _).mono ?_); rintro e w' ⟨rfl, n0, rfl⟩))
  rw [rounds_succ]
  go_wp2_with (first | ((with_reducible refine (c3.go _).mono ?_); rintro e w' ⟨rfl, n0, rfl⟩))
  rw [rounds_succ]
  go_wp2_with (first | ((with_reducible refine (c4.go _).mono ?_); rintro e w' ⟨rfl, n0, rfl⟩))
  rw [rounds_succ]
  go_wp2_with (first | ((with_reducible refine (c5.go _).mono ?_); rintro e w' ⟨rfl, n0, rfl⟩))
  rw [rounds_succ]
  go_wp2_with (first | ((with_reducible refine (c6.go _).mono ?_); rintro e w' ⟨rfl, n0, rfl⟩))
  rw [rounds_succ]
  go_wp2_with (first | ((with_reducible refine (c7.go _).mono ?_); rintro e w' ⟨rfl, n0, rfl⟩))
  rw [rounds_succ]
  go_wp2
  go_ret
  exact ⟨rfl, fin _⟩

set_option maxHeartbeats 2000000 in
theorem flB1 (a0 a1 a b o r v : Int) (w : World) (kr : IntKind.u64.wrap a0 % 13 = r) (r0 : 0 ≤ r) (r1 : r ≤ 12) (ko : 1 + r = o)
    (cl : Gives 12 #[] (.bool true)) (cw : Gives 23 #[.int .i64 a1] (.int .i64 v)) (V : Int) (cF : Gives 15 #[.int .i64 o] (.int .i64 4))
    (c0 : Gives 13 #[.int .i64 o, .int .i64 v, .int .i64 0, .int .u64 a, .int .u64 b] (.tuple #[.int .u64 0, .int .i64 1])) (c1 : Gives 13 #[.int .i64 o, .int .i64 v, .int .i64 1, .int .u64 a, .int .u64 b] (.tuple #[.int .u64 0, .int .i64 3])) (c2 : Gives 13 #[.int .i64 o, .int .i64 v, .int .i64 2, .int .u64 a, .int .u64 b] (.tuple #[.int .u64 0, .int .i64 3])) (c3 : Gives 13 #[.int .i64 o, .int .i64 v, .int .i64 3, .int .u64 a, .int .u64 b] (.tuple #[.int .u64 0, .int .i64 3])) (c4 : Gives 13 #[.int .i64 o, .int .i64 v, .int .i64 4, .int .u64 a, .int .u64 b] (.tuple #[.int .u64 0, .int .i64 1])) (c5 : Gives 13 #[.int .i64 o, .int .i64 v, .int .i64 5, .int .u64 a, .int .u64 b] (.tuple #[.int .u64 0, .int .i64 3])) (c6 : Gives 13 #[.int .i64 o, .int .i64 v, .int .i64 6, .int .u64 a, .int .u64 b] (.tuple #[.int .u64 0, .int .i64 3])) (c7 : Gives 13 #[.int .i64 o, .int .i64 v, .int .i64 7, .int .u64 a, .int .u64 b] (.tuple #[.int .u64 0, .int .i64 3])) :
    Calls Try.prog 7 #[.int .i64 a0, .int .i64 a1, .int .u64 a, .int .u64 b] w fun e w' => e = .returned (.bool true) ∧ Grown w w' := by
  have hw0 : 0 ≤ IntKind.u64.wrap a0 := by rw [u64w]; omega
  have fin : ∀ n, Grown w (w.drewN n) := fun n => grown_drewN w n
  have k1 : bits .andNot .i64 1 4 = 1 := by decide +kernel
  have k2 : bits .andNot .i64 2 4 = 2 := by decide +kernel
  have k3 : bits .andNot .i64 3 4 = 3 := by decide +kernel
  have k4 : bits .andNot .i64 4 4 = 0 := by decide +kernel
  have k5 : bits .andNot .i64 5 4 = 1 := by decide +kernel
  have k6 : bits .andNot .i64 6 4 = 2 := by decide +kernel
  have k7 : bits .andNot .i64 7 4 = 3 := by decide +kernel
  go_enter Try.func7, Try.ntmps7
  go_wp2_with (first | ((with_reducible refine (cl.go _).mono ?_); rintro e w' ⟨rfl, n0, rfl⟩) | ((with_reducible refine (cw.go _).mono ?_); rintro e w' ⟨rfl, n0, rfl⟩) | ((with_reducible refine (c0.go _).mono ?_); rintro e w' ⟨rfl, n0, rfl⟩) | ((with_reducible refine (cF.go _).mono ?_); rintro e w' ⟨rfl, n0, rfl⟩))
  refine wp_loop_rounds 8 ?_
  rw [rounds_succ]
  go_wp2_with (first | ((with_reducible refine (c1.go _).mono ?_); rintro e w' ⟨rfl, n0, rfl⟩))
  rw [rounds_succ]
  go_wp2_with (first | ((with_reducible refine (c2.go _).mono ?_); rintro e w' ⟨rfl, n0, rfl⟩))
  rw [rounds_succ]
  go_wp2_with (first | ((with_reducible refine (c3.go _).mono ?_); rintro e w' ⟨rfl, n0, rfl⟩))
  rw [rounds_succ]
  go_wp2_with (first | ((with_reducible refine (c4.go _).mono ?_); rintro e w' ⟨rfl, n0, rfl⟩))
  rw [rounds_succ]
  go_wp2_with (first | ((with_reducible refine (c5.go _).mono ?_); rintro e w' ⟨rfl, n0, rfl⟩))
  rw [rounds_succ]
  go_wp2_with (first | ((with_reducible refine (c6.go _).mono ?_); rintro e w' ⟨rfl, n0, rfl⟩))
  rw [rounds_succ]
  go_wp2_with (first | ((with_reducible refine (c7.go _).mono ?_); rintro e w' ⟨rfl, n0, rfl⟩))
  rw [rounds_succ]
  go_wp2
  go_ret
  exact ⟨rfl, fin _⟩

set_option maxHeartbeats 2000000 in
theorem flB2 (a0 a1 a b o r v : Int) (w : World) (kr : IntKind.u64.wrap a0 % 13 = r) (r0 : 0 ≤ r) (r1 : r ≤ 12) (ko : 1 + r = o)
    (cl : Gives 12 #[] (.bool true)) (cw : Gives 23 #[.int .i64 a1] (.int .i64 v)) (V : Int) (cF : Gives 15 #[.int .i64 o] (.int .i64 4))
    (c0 : Gives 13 #[.int .i64 o, .int .i64 v, .int .i64 0, .int .u64 a, .int .u64 b] (.tuple #[.int .u64 0, .int .i64 2])) (c1 : Gives 13 #[.int .i64 o, .int .i64 v, .int .i64 1, .int .u64 a, .int .u64 b] (.tuple #[.int .u64 0, .int .i64 3])) (c2 : Gives 13 #[.int .i64 o, .int .i64 v, .int .i64 2, .int .u64 a, .int .u64 b] (.tuple #[.int .u64 0, .int .i64 3])) (c3 : Gives 13 #[.int .i64 o, .int .i64 v, .int .i64 3, .int .u64 a, .int .u64 b] (.tuple #[.int .u64 0, .int .i64 3])) (c4 : Gives 13 #[.int .i64 o, .int .i64 v, .int .i64 4, .int .u64 a, .int .u64 b] (.tuple #[.int .u64 0, .int .i64 2])) (c5 : Gives 13 #[.int .i64 o, .int .i64 v, .int .i64 5, .int .u64 a, .int .u64 b] (.tuple #[.int .u64 0, .int .i64 3])) (c6 : Gives 13 #[.int .i64 o, .int .i64 v, .int .i64 6, .int .u64 a, .int .u64 b] (.tuple #[.int .u64 0, .int .i64 3])) (c7 : Gives 13 #[.int .i64 o, .int .i64 v, .int .i64 7, .int .u64 a, .int .u64 b] (.tuple #[.int .u64 0, .int .i64 3])) :
    Calls Try.prog 7 #[.int .i64 a0, .int .i64 a1, .int .u64 a, .int .u64 b] w fun e w' => e = .returned (.bool true) ∧ Grown w w' := by
  have hw0 : 0 ≤ IntKind.u64.wrap a0 := by rw [u64w]; omega
  have fin : ∀ n, Grown w (w.drewN n) := fun n => grown_drewN w n
  have k1 : bits .andNot .i64 1 4 = 1 := by decide +kernel
  have k2 : bits .andNot .i64 2 4 = 2 := by decide +kernel
  have k3 : bits .andNot .i64 3 4 = 3 := by decide +kernel
  have k4 : bits .andNot .i64 4 4 = 0 := by decide +kernel
  have k5 : bits .andNot .i64 5 4 = 1 := by decide +kernel
  have k6 : bits .andNot .i64 6 4 = 2 := by decide +kernel
  have k7 : bits .andNot .i64 7 4 = 3 := by decide +kernel
  go_enter Try.func7, Try.ntmps7
  go_wp2_with (first | ((with_reducible refine (cl.go _).mono ?_); rintro e w' ⟨rfl, n0, rfl⟩) | ((with_reducible refine (cw.go _).mono ?_); rintro e w' ⟨rfl, n0, rfl⟩) | ((with_reducible refine (c0.go _).mono ?_); rintro e w' ⟨rfl, n0, rfl⟩) | ((with_reducible refine (cF.go _).mono ?_); rintro e w' ⟨rfl, n0, rfl⟩))
  refine wp_loop_rounds 8 ?_
  rw [rounds_succ]
  go_wp2_with (first | ((with_reducible refine (c1.go _).mono ?_); rintro e w' ⟨rfl, n0, rfl⟩))
  rw [rounds_succ]
  go_wp2_with (first | ((with_reducible refine (c2.go _).mono ?_); rintro e w' ⟨rfl, n0, rfl⟩))
  rw [rounds_succ]
  go_wp2_with (first | ((with_reducible refine (c3.go _).mono ?_); rintro e w' ⟨rfl, n0, rfl⟩))
  rw [rounds_succ]
  go_wp2_with (first | ((with_reducible refine (c4.go _).mono ?_); rintro e w' ⟨rfl, n0, rfl⟩))
  rw [rounds_succ]
  go_wp2_with (first | ((with_reducible refine (c5.go _).mono ?_); rintro e w' ⟨rfl, n0, rfl⟩))
  rw [rounds_succ]
  go_wp2_with (first | ((with_reducible refine (c6.go _).mono ?_); rintro e w' ⟨rfl, n0, rfl⟩))
  rw [rounds_succ]
  go_wp2_with (first | ((with_reducible refine (c7.go _).mono ?_); rintro e w' ⟨rfl, n0, rfl⟩))
  rw [rounds_succ]
  go_wp2
  go_ret
  exact ⟨rfl, fin _⟩

set_option maxHeartbeats 2000000 in
theorem flB3 (a0 a1 a b o r v : Int) (w : World) (kr : IntKind.u64.wrap a0 % 13 = r) (r0 : 0 ≤ r) (r1 : r ≤ 12) (ko : 1 + r = o)
    (cl : Gives 12 #[] (.bool true)) (cw : Gives 23 #[.int .i64 a1] (.int .i64 v)) (V : Int) (cF : Gives 15 #[.int .i64 o] (.int .i64 4))
    (c0 : Gives 13 #[.int .i64 o, .int .i64 v, .int .i64 0, .int .u64 a, .int .u64 b] (.tuple #[.int .u64 V, .int .i64 0])) (c1 : Gives 13 #[.int .i64 o, .int .i64 v, .int .i64 1, .int .u64 a, .int .u64 b] (.tuple #[.int .u64 0, .int .i64 3])) (c2 : Gives 13 #[.int .i64 o, .int .i64 v, .int .i64 2, .int .u64 a, .int .u64 b] (.tuple #[.int .u64 0, .int .i64 3])) (c3 : Gives 13 #[.int .i64 o, .int .i64 v, .int .i64 3, .int .u64 a, .int .u64 b] (.tuple #[.int .u64 0, .int .i64 3])) (c4 : Gives 13 #[.int .i64 o, .int .i64 v, .int .i64 4, .int .u64 a, .int .u64 b] (.tuple #[.int .u64 V, .int .i64 0])) (c5 : Gives 13 #[.int .i64 o, .int .i64 v, .int .i64 5, .int .u64 a, .int .u64 b] (.tuple #[.int .u64 0, .int .i64 3])) (c6 : Gives 13 #[.int .i64 o, .int .i64 v, .int .i64 6, .int .u64 a, .int .u64 b] (.tuple #[.int .u64 0, .int .i64 3])) (c7 : Gives 13 #[.int .i64 o, .int .i64 v, .int .i64 7, .int .u64 a, .int .u64 b] (.tuple #[.int .u64 0, .int .i64 3])) :
    Calls Try.prog 7 #[.int .i64 a0, .int .i64 a1, .int .u64 a, .int .u64 b] w fun e w' => e = .returned (.bool true) ∧ Grown w w' := by
  have hw0 : 0 ≤ IntKind.u64.wrap a0 := by rw [u64w]; omega
  have fin : ∀ n, Grown w (w.drewN n) := fun n => grown_drewN w n
  have k1 : bits .andNot .i64 1 4 = 1 := by decide +kernel
  have k2 : bits .andNot .i64 2 4 = 2 := by decide +kernel
  have k3 : bits .andNot .i64 3 4 = 3 := by decide +kernel
  have k4 : bits .andNot .i64 4 4 = 0 := by decide +kernel
  have k5 : bits .andNot .i64 5 4 = 1 := by decide +kernel
  have k6 : bits .andNot .i64 6 4 = 2 := by decide +kernel
  have k7 : bits .andNot .i64 7 4 = 3 := by decide +kernel
  go_enter Try.func7, Try.ntmps7
  go_wp2_with (first | ((with_reducible refine (cl.go _).mono ?_); rintro e w' ⟨rfl, n0, rfl⟩) | ((with_reducible refine (cw.go _).mono ?_); rintro e w' ⟨rfl, n0, rfl⟩) | ((with_reducible refine (c0.go _).mono ?_); rintro e w' ⟨rfl, n0, rfl⟩) | ((with_reducible refine (cF.go _).mono ?_); rintro e w' ⟨rfl, n0, rfl⟩))
  refine wp_loop_rounds 8 ?_
  rw [rounds_succ]
  go_wp2_with (first | ((with_reducible refine (c1.go _).mono ?_); rintro e w' ⟨rfl, n0, rfl⟩))
  rw [rounds_succ]
  go_wp2_with (first | ((with_reducible refine (c2.go _).mono ?_); rintro e w' ⟨rfl, n0, rfl⟩))
  rw [rounds_succ]
  go_wp2_with (first | ((with_reducible refine (c3.go _).mono ?_); rintro e w' ⟨rfl, n0, rfl⟩))
  rw [rounds_succ]
  go_wp2_with (first | ((with_reducible refine (c4.go _).mono ?_); rintro e w' ⟨rfl, n0, rfl⟩))
  rw [rounds_succ]
  go_wp2_with (first | ((with_reducible refine (c5.go _).mono ?_); rintro e w' ⟨rfl, n0, rfl⟩))
  rw [rounds_succ]
  go_wp2_with (first | ((with_reducible refine (c6.go _).mono ?_); rintro e w' ⟨rfl, n0, rfl⟩))
  rw [rounds_succ]
  go_wp2_with (first | ((with_reducible refine (c7.go _).mono ?_); rintro e w' ⟨rfl, n0, rfl⟩))
  rw [rounds_succ]
  go_wp2
  go_ret
  exact ⟨rfl, fin _⟩

set_option maxHeartbeats 2000000 in
theorem flB4 (a0 a1 a b o r v : Int) (w : World) (kr : IntKind.u64.wrap a0 % 13 = r) (r0 : 0 ≤ r) (r1 : r ≤ 12) (ko : 1 + r = o)
    (cl : Gives 12 #[] (.bool true)) (cw : Gives 23 #[.int .i64 a1] (.int .i64 v)) (V : Int) (cF : Gives 15 #[.int .i64 o] (.int .i64 4))
    (c0 : Gives 13 #[.int .i64 o, .int .i64 v, .int .i64 0, .int .u64 a, .int .u64 b] (.tuple #[.int .u64 V, .int .i64 0])) (c1 : Gives 13 #[.int .i64 o, .int .i64 v, .int .i64 1, .int .u64 a, .int .u64 b] (.tuple #[.int .u64 0, .int .i64 3])) (c2 : Gives 13 #[.int .i64 o, .int .i64 v, .int .i64 2, .int .u64 a, .int .u64 b] (.tuple #[.int .u64 0, .int .i64 3])) (c3 : Gives 13 #[.int .i64 o, .int .i64 v, .int .i64 3, .int .u64 a, .int .u64 b] (.tuple #[.int .u64 0, .int .i64 3])) (c4 : Gives 13 #[.int .i64 o, .int .i64 v, .int .i64 4, .int .u64 a, .int .u64 b] (.tuple #[.int .u64 0, .int .i64 1])) (c5 : Gives 13 #[.int .i64 o, .int .i64 v, .int .i64 5, .int .u64 a, .int .u64 b] (.tuple #[.int .u64 0, .int .i64 3])) (c6 : Gives 13 #[.int .i64 o, .int .i64 v, .int .i64 6, .int .u64 a, .int .u64 b] (.tuple #[.int .u64 0, .int .i64 3])) (c7 : Gives 13 #[.int .i64 o, .int .i64 v, .int .i64 7, .int .u64 a, .int .u64 b] (.tuple #[.int .u64 0, .int .i64 3])) :
    Calls Try.prog 7 #[.int .i64 a0, .int .i64 a1, .int .u64 a, .int .u64 b] w fun e w' => e = .returned (.bool true) ∧ Grown w w' := by
  have hw0 : 0 ≤ IntKind.u64.wrap a0 := by rw [u64w]; omega
  have fin : ∀ n, Grown w (w.drewN n) := fun n => grown_drewN w n
  have k1 : bits .andNot .i64 1 4 = 1 := by decide +kernel
  have k2 : bits .andNot .i64 2 4 = 2 := by decide +kernel
  have k3 : bits .andNot .i64 3 4 = 3 := by decide +kernel
  have k4 : bits .andNot .i64 4 4 = 0 := by decide +kernel
  have k5 : bits .andNot .i64 5 4 = 1 := by decide +kernel
  have k6 : bits .andNot .i64 6 4 = 2 := by decide +kernel
  have k7 : bits .andNot .i64 7 4 = 3 := by decide +kernel
  go_enter Try.func7, Try.ntmps7
  go_wp2_with (first | ((with_reducible refine (cl.go _).mono ?_); rintro e w' ⟨rfl, n0, rfl⟩) | ((with_reducible refine (cw.go _).mono ?_); rintro e w' ⟨rfl, n0, rfl⟩) | ((with_reducible refine (c0.go _).mono ?_); rintro e w' ⟨rfl, n0, rfl⟩) | ((with_reducible refine (cF.go _).mono ?_); rintro e w' ⟨rfl, n0, rfl⟩))
  refine wp_loop_rounds 8 ?_
  rw [rounds_succ]
  go_wp2_with (first | ((with_reducible refine (c1.go _).mono ?_); rintro e w' ⟨rfl, n0, rfl⟩))
  rw [rounds_succ]
  go_wp2_with (first | ((with_reducible refine (c2.go _).mono ?_); rintro e w' ⟨rfl, n0, rfl⟩))
  rw [rounds_succ]
  go_wp2_with (first | ((with_reducible refine (c3.go _).mono ?_); rintro e w' ⟨rfl, n0, rfl⟩))
  rw [rounds_succ]
  go_wp2_with (first | ((with_reducible refine (c4.go _).mono ?_); rintro e w' ⟨rfl, n0, rfl⟩))
  rw [rounds_succ]
  go_wp2_with (first | ((with_reducible refine (c5.go _).mono ?_); rintro e w' ⟨rfl, n0, rfl⟩))
  rw [rounds_succ]
  go_wp2_with (first | ((with_reducible refine (c6.go _).mono ?_); rintro e w' ⟨rfl, n0, rfl⟩))
  rw [rounds_succ]
  go_wp2_with (first | ((with_reducible refine (c7.go _).mono ?_); rintro e w' ⟨rfl, n0, rfl⟩))
  rw [rounds_succ]
  go_wp2
  go_ret
  exact ⟨rfl, fin _⟩

set_option maxHeartbeats 2000000 in
theorem flA1 (a0 a1 a b o r v : Int) (w : World) (kr : IntKind.u64.wrap a0 % 13 = r) (r0 : 0 ≤ r) (r1 : r ≤ 12) (ko : 1 + r = o)
    (cl : Gives 12 #[] (.bool true)) (cw : Gives 23 #[.int .i64 a1] (.int .i64 v)) (V : Int) (cF : Gives 15 #[.int .i64 o] (.int .i64 3))
    (c0 : Gives 13 #[.int .i64 o, .int .i64 v, .int .i64 0, .int .u64 a, .int .u64 b] (.tuple #[.int .u64 0, .int .i64 1])) (c1 : Gives 13 #[.int .i64 o, .int .i64 v, .int .i64 1, .int .u64 a, .int .u64 b] (.tuple #[.int .u64 0, .int .i64 1])) (c2 : Gives 13 #[.int .i64 o, .int .i64 v, .int .i64 2, .int .u64 a, .int .u64 b] (.tuple #[.int .u64 0, .int .i64 1])) (c3 : Gives 13 #[.int .i64 o, .int .i64 v, .int .i64 3, .int .u64 a, .int .u64 b] (.tuple #[.int .u64 0, .int .i64 1])) (c4 : Gives 13 #[.int .i64 o, .int .i64 v, .int .i64 4, .int .u64 a, .int .u64 b] (.tuple #[.int .u64 0, .int .i64 3])) (c5 : Gives 13 #[.int .i64 o, .int .i64 v, .int .i64 5, .int .u64 a, .int .u64 b] (.tuple #[.int .u64 0, .int .i64 3])) (c6 : Gives 13 #[.int .i64 o, .int .i64 v, .int .i64 6, .int .u64 a, .int .u64 b] (.tuple #[.int .u64 0, .int .i64 3])) (c7 : Gives 13 #[.int .i64 o, .int .i64 v, .int .i64 7, .int .u64 a, .int .u64 b] (.tuple #[.int .u64 0, .int .i64 3])) :
    Calls Try.prog 7 #[.int .i64 a0, .int .i64 a1, .int .u64 a, .int .u64 b] w fun e w' => e = .returned (.bool true) ∧ Grown w w' := by
  have hw0 : 0 ≤ IntKind.u64.wrap a0 := by rw [u64w]; omega
  have fin : ∀ n, Grown w (w.drewN n) := fun n => grown_drewN w n
  have k1 : bits .andNot .i64 1 3 = 0 := by decide +kernel
  have k2 : bits .andNot .i64 2 3 = 0 := by decide +kernel
  have k3 : bits .andNot .i64 3 3 = 0 := by decide +kernel
  have k4 : bits .andNot .i64 4 3 = 4 := by decide +kernel
  have k5 : bits .andNot .i64 5 3 = 4 := by decide +kernel
  have k6 : bits .andNot .i64 6 3 = 4 := by decide +kernel
  have k7 : bits .andNot .i64 7 3 = 4 := by decide +kernel
  go_enter Try.func7, Try.ntmps7
  go_wp2_with (first | ((with_reducible refine (cl.go _).mono ?_); rintro e w' ⟨rfl, n0, rfl⟩) | ((with_reducible refine (cw.go _).mono ?_); rintro e w' ⟨rfl, n0, rfl⟩) | ((with_reducible refine (c0.go _).mono ?_); rintro e w' ⟨rfl, n0, rfl⟩) | ((with_reducible refine (cF.go _).mono ?_); rintro e w' ⟨rfl, n0, rfl⟩))
  refine wp_loop_rounds 8 ?_
  rw [rounds_succ]
  go_wp2_with (first | ((with_reducible refine (c1.go _).mono ?_); rintro e w' ⟨rfl, n0, rfl⟩) | ((with_reducible refine (c3.go _).mono ?_); rintro e w' ⟨rfl, n0, rfl⟩))
  rw [rounds_succ]
  go_wp2_with (first | ((with_reducible refine (c2.go _).mono ?_); rintro e w' ⟨rfl, n0, rfl⟩) | ((with_reducible refine (c3.go _).mono ?_); rintro e w' ⟨rfl, n0, rfl⟩))
  rw [rounds_succ]
  go_wp2_with (first | ((with_reducible refine (c3.go _).mono ?_); rintro e w' ⟨rfl, n0, rfl⟩))
  rw [rounds_succ]
  go_wp2_with (first | ((with_reducible refine (c4.go _).mono ?_); rintro e w' ⟨rfl, n0, rfl⟩))
  rw [rounds_succ]
  go_wp2_with (first | ((with_reducible refine (c5.go _).mono ?_); rintro e w' ⟨rfl, n0, rfl⟩))
  rw [rounds_succ]
  go_wp2_with (first | ((with_reducible refine (c6.go _).mono ?_); rintro e w' ⟨rfl, n0, rfl⟩))
  rw [rounds_succ]
  go_wp2_with (first | ((with_reducible refine (c7.go _).mono ?_); rintro e w' ⟨rfl, n0, rfl⟩))
  rw [rounds_succ]
  go_wp2
  go_ret
  exact ⟨rfl, fin _⟩

set_option maxHeartbeats 2000000 in
theorem flA2 (a0 a1 a b o r v : Int) (w : World) (kr : IntKind.u64.wrap a0 % 13 = r) (r0 : 0 ≤ r) (r1 : r ≤ 12) (ko : 1 + r = o)
    (cl : Gives 12 #[] (.bool true)) (cw : Gives 23 #[.int .i64 a1] (.int .i64 v)) (V : Int) (cF : Gives 15 #[.int .i64 o] (.int .i64 3))
    (c0 : Gives 13 #[.int .i64 o, .int .i64 v, .int .i64 0, .int .u64 a, .int .u64 b] (.tuple #[.int .u64 V, .int .i64 0])) (c1 : Gives 13 #[.int .i64 o, .int .i64 v, .int .i64 1, .int .u64 a, .int .u64 b] (.tuple #[.int .u64 V, .int .i64 0])) (c2 : Gives 13 #[.int .i64 o, .int .i64 v, .int .i64 2, .int .u64 a, .int .u64 b] (.tuple #[.int .u64 V, .int .i64 0])) (c3 : Gives 13 #[.int .i64 o, .int .i64 v, .int .i64 3, .int .u64 a, .int .u64 b] (.tuple #[.int .u64 V, .int .i64 0])) (c4 : Gives 13 #[.int .i64 o, .int .i64 v, .int .i64 4, .int .u64 a, .int .u64 b] (.tuple #[.int .u64 0, .int .i64 3])) (c5 : Gives 13 #[.int .i64 o, .int .i64 v, .int .i64 5, .int .u64 a, .int .u64 b] (.tuple #[.int .u64 0, .int .i64 3])) (c6 : Gives 13 #[.int .i64 o, .int .i64 v, .int .i64 6, .int .u64 a, .int .u64 b] (.tuple #[.int .u64 0, .int .i64 3])) (c7 : Gives 13 #[.int .i64 o, .int .i64 v, .int .i64 7, .int .u64 a, .int .u64 b] (.tuple #[.int .u64 0, .int .i64 3])) :
    Calls Try.prog 7 #[.int .i64 a0, .int .i64 a1, .int .u64 a, .int .u64 b] w fun e w' => e = .returned (.bool true) ∧ Grown w w' := by
  have hw0 : 0 ≤ IntKind.u64.wrap a0 := by rw [u64w]; omega
  have fin : ∀ n, Grown w (w.drewN n) := fun n => grown_drewN w n
  have k1 : bits .andNot .i64 1 3 = 0 := by decide +kernel
  have k2 : bits .andNot .i64 2 3 = 0 := by decide +kernel
  have k3 : bits .andNot .i64 3 3 = 0 := by decide +kernel
  have k4 : bits .andNot .i64 4 3 = 4 := by decide +kernel
  have k5 : bits .andNot .i64 5 3 = 4 := by decide +kernel
  have k6 : bits .andNot .i64 6 3 = 4 := by decide +kernel
  have k7 : bits .andNot .i64 7 3 = 4 := by decide +kernel
  go_enter Try.func7, Try.ntmps7
  go_wp2_with (first | ((with_reducible refine (cl.go _).mono ?_); rintro e w' ⟨rfl, n0, rfl⟩) | ((with_reducible refine (cw.go _).mono ?_); rintro e w' ⟨rfl, n0, rfl⟩) | ((with_reducible refine (c0.go _).mono ?_); rintro e w' ⟨rfl, n0, rfl⟩) | ((with_reducible refine (cF.go _).mono ?_); rintro e w' ⟨rfl, n0, rfl⟩))
  refine wp_loop_rounds 8 ?_
  rw [rounds_succ]
  go_wp2_with (first | ((with_reducible refine (c1.go _).mono ?_); rintro e w' ⟨rfl, n0, rfl⟩) | ((with_reducible refine (c3.go _).mono ?_); rintro e w' ⟨rfl, n0, rfl⟩))
  rw [rounds_succ]
  go_wp2_with (first | ((with_reducible refine (c2.go _).mono ?_); rintro e w' ⟨rfl, n0, rfl⟩) | ((with_reducible refine (c3.go _).mono ?_); rintro e w' ⟨rfl, n0, rfl⟩))
  rw [rounds_succ]
  go_wp2_with (first | ((with_reducible refine (c3.go _).mono ?_); rintro e w' ⟨rfl, n0, rfl⟩))
  rw [rounds_succ]
  go_wp2_with (first | ((with_reducible refine (c4.go _).mono ?_); rintro e w' ⟨rfl, n0, rfl⟩))
  rw [rounds_succ]
  go_wp2_with (first | ((with_reducible refine (c5.go _).mono ?_); rintro e w' ⟨rfl, n0, rfl⟩))
  rw [rounds_succ]
  go_wp2_with (first | ((with_reducible refine (c6.go _).mono ?_); rintro e w' ⟨rfl, n0, rfl⟩))
  rw [rounds_succ]
  go_wp2_with (first | ((with_reducible refine (c7.go _).mono ?_); rintro e w' ⟨rfl, n0, rfl⟩))
  rw [rounds_succ]
  go_wp2
  go_ret
  exact ⟨rfl, fin _⟩

set_option maxHeartbeats 2000000 in
theorem flA3 (a0 a1 a b o r v : Int) (w : World) (kr : IntKind.u64.wrap a0 % 13 = r) (r0 : 0 ≤ r) (r1 : r ≤ 12) (ko : 1 + r = o)
    (cl : Gives 12 #[] (.bool true)) (cw : Gives 23 #[.int .i64 a1] (.int .i64 v)) (V : Int) (cF : Gives 15 #[.int .i64 o] (.int .i64 3))
    (c0 : Gives 13 #[.int .i64 o, .int .i64 v, .int .i64 0, .int .u64 a, .int .u64 b] (.tuple #[.int .u64 V, .int .i64 0])) (c1 : Gives 13 #[.int .i64 o, .int .i64 v, .int .i64 1, .int .u64 a, .int .u64 b] (.tuple #[.int .u64 0, .int .i64 1])) (c2 : Gives 13 #[.int .i64 o, .int .i64 v, .int .i64 2, .int .u64 a, .int .u64 b] (.tuple #[.int .u64 V, .int .i64 0])) (c3 : Gives 13 #[.int .i64 o, .int .i64 v, .int .i64 3, .int .u64 a, .int .u64 b] (.tuple #[.int .u64 0, .int .i64 1])) (c4 : Gives 13 #[.int .i64 o, .int .i64 v, .int .i64 4, .int .u64 a, .int .u64 b] (.tuple #[.int .u64 0, .int .i64 3])) (c5 : Gives 13 #[.int .i64 o, .int .i64 v, .int .i64 5, .int .u64 a, .int .u64 b] (.tuple #[.int .u64 0, .int .i64 3])) (c6 : Gives 13 #[.int .i64 o, .int .i64 v, .int .i64 6, .int .u64 a, .int .u64 b] (.tuple #[.int .u64 0, .int .i64 3])) (c7 : Gives 13 #[.int .i64 o, .int .i64 v, .int .i64 7, .int .u64 a, .int .u64 b] (.tuple #[.int .u64 0, .int .i64 3])) :
    Calls Try.prog 7 #[.int .i64 a0, .int .i64 a1, .int .u64 a, .int .u64 b] w fun e w' => e = .returned (.bool true) ∧ Grown w w' := by
  have hw0 : 0 ≤ IntKind.u64.wrap a0 := by rw [u64w]; omega
  have fin : ∀ n, Grown w (w.drewN n) := fun n => grown_drewN w n
  have k1 : bits .andNot .i64 1 3 = 0 := by decide +kernel
  have k2 : bits .andNot .i64 2 3 = 0 := by decide +kernel
  have k3 : bits .andNot .i64 3 3 = 0 := by decide +kernel
  have k4 : bits .andNot .i64 4 3 = 4 := by decide +kernel
  have k5 : bits .andNot .i64 5 3 = 4 := by decide +kernel
  have k6 : bits .andNot .i64 6 3 = 4 := by decide +kernel
  have k7 : bits .andNot .i64 7 3 = 4 := by decide +kernel
  go_enter Try.func7, Try.ntmps7
  go_wp2_with (first | ((with_reducible refine (cl.go _).mono ?_); rintro e w' ⟨rfl, n0, rfl⟩) | ((with_reducible refine (cw.go _).mono ?_); rintro e w' ⟨rfl, n0, rfl⟩) | ((with_reducible refine (c0.go _).mono ?_); rintro e w' ⟨rfl, n0, rfl⟩) | ((with_reducible refine (cF.go _).mono ?_); rintro e w' ⟨rfl, n0, rfl⟩))
  refine wp_loop_rounds 8 ?_
  rw [rounds_succ]
  go_wp2_with (first | ((with_reducible refine (c1.go _).mono ?_); rintro e w' ⟨rfl, n0, rfl⟩) | ((with_reducible refine (c3.go _).mono ?_); rintro e w' ⟨rfl, n0, rfl⟩))
  rw [rounds_succ]
  go_wp2_with (first | ((with_reducible refine (c2.go _).mono ?_); rintro e w' ⟨rfl, n0, rfl⟩) | ((with_reducible refine (c3.go _).mono ?_); rintro e w' ⟨rfl, n0, rfl⟩))
  rw [rounds_succ]
  go_wp2_with (first | ((with_reducible refine (c3.go _).mono ?_); rintro e w' ⟨rfl, n0, rfl⟩))
  rw [rounds_succ]
  go_wp2_with (first | ((with_reducible refine (c4.go _).mono ?_); rintro e w' ⟨rfl, n0, rfl⟩))
  rw [rounds_succ]
  go_wp2_with (first | ((with_reducible refine (c5.go _).mono ?_); rintro e w' ⟨rfl, n0, rfl⟩))
  rw [rounds_succ]
  go_wp2_with (first | ((with_reducible refine (c6.go _).mono ?_); rintro e w' ⟨rfl, n0, rfl⟩))
  rw [rounds_succ]
  go_wp2_with (first | ((with_reducible refine (c7.go _).mono ?_); rintro e w' ⟨rfl, n0, rfl⟩))
  rw [rounds_succ]
  go_wp2
  go_ret
  exact ⟨rfl, fin _⟩

set_option maxHeartbeats 2000000 in
theorem flA4 (a0 a1 a b o r v : Int) (w : World) (kr : IntKind.u64.wrap a0 % 13 = r) (r0 : 0 ≤ r) (r1 : r ≤ 12) (ko : 1 + r = o)
    (cl : Gives 12 #[] (.bool true)) (cw : Gives 23 #[.int .i64 a1] (.int .i64 v)) (V : Int) (cF : Gives 15 #[.int .i64 o] (.int .i64 3))
    (c0 : Gives 13 #[.int .i64 o, .int .i64 v, .int .i64 0, .int .u64 a, .int .u64 b] (.tuple #[.int .u64 V, .int .i64 0])) (c1 : Gives 13 #[.int .i64 o, .int .i64 v, .int .i64 1, .int .u64 a, .int .u64 b] (.tuple #[.int .u64 V, .int .i64 0])) (c2 : Gives 13 #[.int .i64 o, .int .i64 v, .int .i64 2, .int .u64 a, .int .u64 b] (.tuple #[.int .u64 0, .int .i64 1])) (c3 : Gives 13 #[.int .i64 o, .int .i64 v, .int .i64 3, .int .u64 a, .int .u64 b] (.tuple #[.int .u64 0, .int .i64 1])) (c4 : Gives 13 #[.int .i64 o, .int .i64 v, .int .i64 4, .int .u64 a, .int .u64 b] (.tuple #[.int .u64 0, .int .i64 3])) (c5 : Gives 13 #[.int .i64 o, .int .i64 v, .int .i64 5, .int .u64 a, .int .u64 b] (.tuple #[.int .u64 0, .int .i64 3])) (c6 : Gives 13 #[.int .i64 o, .int .i64 v, .int .i64 6, .int .u64 a, .int .u64 b] (.tuple #[.int .u64 0, .int .i64 3])) (c7 : Gives 13 #[.int .i64 o, .int .i64 v, .int .i64 7, .int .u64 a, .int .u64 b] (.tuple #[.int .u64 0, .int .i64 3])) :
    Calls Try.prog 7 #[.int .i64 a0, .int .i64 a1, .int .u64 a, .int .u64 b] w fun e w' => e = .returned (.bool true) ∧ Grown w w' := by
  have hw0 : 0 ≤ IntKind.u64.wrap a0 := by rw [u64w]; omega
  have fin : ∀ n, Grown w (w.drewN n) := fun n => grown_drewN w n
  have k1 : bits .andNot .i64 1 3 = 0 := by decide +kernel
  have k2 : bits .andNot .i64 2 3 = 0 := by decide +kernel
  have k3 : bits .andNot .i64 3 3 = 0 := by decide +kernel
  have k4 : bits .andNot .i64 4 3 = 4 := by decide +kernel
  have k5 : bits .andNot .i64 5 3 = 4 := by decide +kernel
  have k6 : bits .andNot .i64 6 3 = 4 := by decide +kernel
  have k7 : bits .andNot .i64 7 3 = 4 := by decide +kernel
  go_enter Try.func7, Try.ntmps7
  go_wp2_with (first | ((with_reducible refine (cl.go _).mono ?_); rintro e w' ⟨rfl, n0, rfl⟩) | ((with_reducible refine (cw.go _).mono ?_); rintro e w' ⟨rfl, n0, rfl⟩) | ((with_reducible refine (c0.go _).mono ?_); rintro e w' ⟨rfl, n0, rfl⟩) | ((with_reducible refine (cF.go _).mono ?_); rintro e w' ⟨rfl, n0, rfl⟩))
  refine wp_loop_rounds 8 ?_
  rw [rounds_succ]
  go_wp2_with (first | ((with_reducible refine (c1.go _).mono ?_); rintro e w' ⟨rfl, n0, rfl⟩) | ((with_reducible refine (c3.go _).mono ?_); rintro e w' ⟨rfl, n0, rfl⟩))
  rw [rounds_succ]
  go_wp2_with (first | ((with_reducible refine (c2.go _).mono ?_); rintro e w' ⟨rfl, n0, rfl⟩) | ((with_reducible refine (c3.go _).mono ?_); rintro e w' ⟨rfl, n0, rfl⟩))
  rw [rounds_succ]
  go_wp2_with (first | ((with_reducible refine (c3.go _).mono ?_); rintro e w' ⟨rfl, n0, rfl⟩))
  rw [rounds_succ]
  go_wp2_with (first | ((with_reducible refine (c4.go _).mono ?_); rintro e w' ⟨rfl, n0, rfl⟩))
  rw [rounds_succ]
  go_wp2_with (first | ((with_reducible refine (c5.go _).mono ?_); rintro e w' ⟨rfl, n0, rfl⟩))
  rw [rounds_succ]
  go_wp2_with (first | ((with_reducible refine (c6.go _).mono ?_); rintro e w' ⟨rfl, n0, rfl⟩))
  rw [rounds_succ]
  go_wp2_with (first | ((with_reducible refine (c7.go _).mono ?_); rintro e w' ⟨rfl, n0, rfl⟩))
  rw [rounds_succ]
  go_wp2
  go_ret
  exact ⟨rfl, fin _⟩

set_option maxHeartbeats 2000000 in
theorem flA5 (a0 a1 a b o r v : Int) (w : World) (kr : IntKind.u64.wrap a0 % 13 = r) (r0 : 0 ≤ r) (r1 : r ≤ 12) (ko : 1 + r = o)
    (cl : Gives 12 #[] (.bool true)) (cw : Gives 23 #[.int .i64 a1] (.int .i64 v)) (V : Int) (cF : Gives 15 #[.int .i64 o] (.int .i64 3))
    (c0 : Gives 13 #[.int .i64 o, .int .i64 v, .int .i64 0, .int .u64 a, .int .u64 b] (.tuple #[.int .u64 V, .int .i64 0])) (c1 : Gives 13 #[.int .i64 o, .int .i64 v, .int .i64 1, .int .u64 a, .int .u64 b] (.tuple #[.int .u64 0, .int .i64 1])) (c2 : Gives 13 #[.int .i64 o, .int .i64 v, .int .i64 2, .int .u64 a, .int .u64 b] (.tuple #[.int .u64 0, .int .i64 1])) (c3 : Gives 13 #[.int .i64 o, .int .i64 v, .int .i64 3, .int .u64 a, .int .u64 b] (.tuple #[.int .u64 0, .int .i64 1])) (c4 : Gives 13 #[.int .i64 o, .int .i64 v, .int .i64 4, .int .u64 a, .int .u64 b] (.tuple #[.int .u64 0, .int .i64 3])) (c5 : Gives 13 #[.int .i64 o, .int .i64 v, .int .i64 5, .int .u64 a, .int .u64 b] (.tuple #[.int .u64 0, .int .i64 3])) (c6 : Gives 13 #[.int .i64 o, .int .i64 v, .int .i64 6, .int .u64 a, .int .u64 b] (.tuple #[.int .u64 0, .int .i64 3])) (c7 : Gives 13 #[.int .i64 o, .int .i64 v, .int .i64 7, .int .u64 a, .int .u64 b] (.tuple #[.int .u64 0, .int .i64 3])) :
    Calls Try.prog 7 #[.int .i64 a0, .int .i64 a1, .int .u64 a, .int .u64 b] w fun e w' => e = .returned (.bool true) ∧ Grown w w' := by
  have hw0 : 0 ≤ IntKind.u64.wrap a0 := by rw [u64w]; omega
  have fin : ∀ n, Grown w (w.drewN n) := fun n => grown_drewN w n
  have k1 : bits .andNot .i64 1 3 = 0 := by decide +kernel
  have k2 : bits .andNot .i64 2 3 = 0 := by decide +kernel
  have k3 : bits .andNot .i64 3 3 = 0 := by decide +kernel
  have k4 : bits .andNot .i64 4 3 = 4 := by decide +kernel
  have k5 : bits .andNot .i64 5 3 = 4 := by decide +kernel
  have k6 : bits .andNot .i64 6 3 = 4 := by decide +kernel
  have k7 : bits .andNot .i64 7 3 = 4 := by decide +kernel
  go_enter Try.func7, Try.ntmps7
  go_wp2_with (first | ((with_reducible refine (cl.go _).mono ?_); rintro e w' ⟨rfl, n0, rfl⟩) | ((with_reducible refine (cw.go _).mono ?_); rintro e w' ⟨rfl, n0, rfl⟩) | ((with_reducible refine (c0.go _).mono ?_); rintro e w' ⟨rfl, n0, rfl⟩) | ((with_reducible refine (cF.go _).mono ?_); rintro e w' ⟨rfl, n0, rfl⟩))
  refine wp_loop_rounds 8 ?_
  rw [rounds_succ]
  go_wp2_with (first | ((with_reducible refine (c1.go _).mono ?_); rintro e w' ⟨rfl, n0, rfl⟩) | ((with_reducible refine (c3.go _).mono ?_); rintro e w' ⟨rfl, n0, rfl⟩))
  rw [rounds_succ]
  go_wp2_with (first | ((with_reducible refine (c2.go _).mono ?_); rintro e w' ⟨rfl, n0, rfl⟩) | ((with_reducible refine (c3.go _).mono ?_); rintro e w' ⟨rfl, n0, rfl⟩))
  rw [rounds_succ]
  go_wp2_with (first | ((with_reducible refine (c3.go _).mono ?_); rintro e w' ⟨rfl, n0, rfl⟩))
  rw [rounds_succ]
  go_wp2_with (first | ((with_reducible refine (c4.go _).mono ?_); rintro e w' ⟨rfl, n0, rfl⟩))
  rw [rounds_succ]
  go_wp2_with (first | ((with_reducible refine (c5.go _).mono ?_); rintro e w' ⟨rfl, n0, rfl⟩))
  rw [rounds_succ]
  go_wp2_with (first | ((with_reducible refine (c6.go _).mono ?_); rintro e w' ⟨rfl, n0, rfl⟩))
  rw [rounds_succ]
  go_wp2_with (first | ((with_reducible refine (c7.go _).mono ?_); rintro e w' ⟨rfl, n0, rfl⟩))
  rw [rounds_succ]
  go_wp2
  go_ret
  exact ⟨rfl, fin _⟩


theorem aplT_n {w o fl a b : Int} (h0 : plE w.toNat o (a % pw w.toNat) (b % pw w.toNat) = 0) (hb : brB w.toNat o fl (a % pw w.toNat) (b % pw w.toNat) = false) :
    aplT w o fl a b = .tuple #[.int .u64 (plV w.toNat o (a % pw w.toNat) (b % pw w.toNat)), .int .i64 0] :=
  two_eq (by simp [aplR, aplE, h0, hb]) (by simp [aplE, h0, hb])
theorem aplT_p {w o fl a b : Int} (h0 : plE w.toNat o (a % pw w.toNat) (b % pw w.toNat) = 0) (hb : brB w.toNat o fl (a % pw w.toNat) (b % pw w.toNat) = true) :
    aplT w o fl a b = .tuple #[.int .u64 0, .int .i64 1] :=
  two_eq (by simp [aplR, aplE, h0, hb]) (by simp [aplE, h0, hb])
theorem aplT_e {w o fl a b : Int} (E : Int) (h0 : plE w.toNat o (a % pw w.toNat) (b % pw w.toNat) = E) (hE : E ≠ 0) :
    aplT w o fl a b = .tuple #[.int .u64 0, .int .i64 E] :=
  two_eq (by simp [aplR, aplE, h0, hE]) (by simp [aplE, h0, hE])

theorem flA (a0 a1 a b o r v : Int) (w : World) (kr : IntKind.u64.wrap a0 % 13 = r) (r0 : 0 ≤ r) (r1 : r ≤ 12) (ko : 1 + r = o)
    (cl : Gives 12 #[] (.bool true)) (cw : Gives 23 #[.int .i64 a1] (.int .i64 v)) (g1 : 1 ≤ v) (g2 : v ≤ 64) (hF : flg o = 3) (hp : plE v.toNat o (a % pw v.toNat) (b % pw v.toNat) = 0 ∨ plE v.toNat o (a % pw v.toNat) (b % pw v.toNat) = 1)
    (cA : ∀ fl : Int, (fl = 0 ∨ fl = 1 ∨ fl = 2 ∨ fl = 3) → Gives 13 #[.int .i64 o, .int .i64 v, .int .i64 fl, .int .u64 a, .int .u64 b] (aplT v o fl a b)) :
    Calls Try.prog 7 #[.int .i64 a0, .int .i64 a1, .int .u64 a, .int .u64 b] w fun e w' => e = .returned (.bool true) ∧ Grown w w' := by
  have cF := (Gives.of_same (Flags_any o)).as (one_eq hF)
  have bad : ∀ f, ¬ bits .andNot .i64 f 3 = 0 → Gives 13 #[.int .i64 o, .int .i64 v, .int .i64 f, .int .u64 a, .int .u64 b] (.tuple #[.int .u64 0, .int .i64 3]) :=
    fun f h => Apply_fl o v f a b (by omega) (by omega) g1 g2 (by rw [hF]; exact h)
  rcases hp with hp | hp
  · cases hs : wsB v.toNat o (a % pw v.toNat) (b % pw v.toNat) <;> cases hr : wrB v.toNat o (a % pw v.toNat) (b % pw v.toNat)
    · exact flA2 a0 a1 a b o r v w kr r0 r1 ko cl cw _ cF ((cA 0 (by decide)).as (aplT_n hp (by simp [brB, hs, hr]))) ((cA 1 (by decide)).as (aplT_n hp (by simp [brB, hs, hr]))) ((cA 2 (by decide)).as (aplT_n hp (by simp [brB, hs, hr]))) ((cA 3 (by decide)).as (aplT_n hp (by simp [brB, hs, hr]))) (bad 4 (by decide +kernel)) (bad 5 (by decide +kernel)) (bad 6 (by decide +kernel)) (bad 7 (by decide +kernel))
    · exact flA4 a0 a1 a b o r v w kr r0 r1 ko cl cw _ cF ((cA 0 (by decide)).as (aplT_n hp (by simp [brB, hs, hr]))) ((cA 1 (by decide)).as (aplT_n hp (by simp [brB, hs, hr]))) ((cA 2 (by decide)).as (aplT_p hp (by simp [brB, hs, hr]))) ((cA 3 (by decide)).as (aplT_p hp (by simp [brB, hs, hr]))) (bad 4 (by decide +kernel)) (bad 5 (by decide +kernel)) (bad 6 (by decide +kernel)) (bad 7 (by decide +kernel))
    · exact flA3 a0 a1 a b o r v w kr r0 r1 ko cl cw _ cF ((cA 0 (by decide)).as (aplT_n hp (by simp [brB, hs, hr]))) ((cA 1 (by decide)).as (aplT_p hp (by simp [brB, hs, hr]))) ((cA 2 (by decide)).as (aplT_n hp (by simp [brB, hs, hr]))) ((cA 3 (by decide)).as (aplT_p hp (by simp [brB, hs, hr]))) (bad 4 (by decide +kernel)) (bad 5 (by decide +kernel)) (bad 6 (by decide +kernel)) (bad 7 (by decide +kernel))
    · exact flA5 a0 a1 a b o r v w kr r0 r1 ko cl cw _ cF ((cA 0 (by decide)).as (aplT_n hp (by simp [brB, hs, hr]))) ((cA 1 (by decide)).as (aplT_p hp (by simp [brB, hs, hr]))) ((cA 2 (by decide)).as (aplT_p hp (by simp [brB, hs, hr]))) ((cA 3 (by decide)).as (aplT_p hp (by simp [brB, hs, hr]))) (bad 4 (by decide +kernel)) (bad 5 (by decide +kernel)) (bad 6 (by decide +kernel)) (bad 7 (by decide +kernel))
  · exact flA1 a0 a1 a b o r v w kr r0 r1 ko cl cw 0 cF ((cA 0 (by decide)).as (aplT_e 1 hp (by decide))) ((cA 1 (by decide)).as (aplT_e 1 hp (by decide))) ((cA 2 (by decide)).as (aplT_e 1 hp (by decide))) ((cA 3 (by decide)).as (aplT_e 1 hp (by decide))) (bad 4 (by decide +kernel)) (bad 5 (by decide +kernel)) (bad 6 (by decide +kernel)) (bad 7 (by decide +kernel))
theorem flB (a0 a1 a b o r v : Int) (w : World) (kr : IntKind.u64.wrap a0 % 13 = r) (r0 : 0 ≤ r) (r1 : r ≤ 12) (ko : 1 + r = o)
    (cl : Gives 12 #[] (.bool true)) (cw : Gives 23 #[.int .i64 a1] (.int .i64 v)) (g1 : 1 ≤ v) (g2 : v ≤ 64) (hF : flg o = 4) (hp : plE v.toNat o (a % pw v.toNat) (b % pw v.toNat) = 0 ∨ plE v.toNat o (a % pw v.toNat) (b % pw v.toNat) = 1 ∨ plE v.toNat o (a % pw v.toNat) (b % pw v.toNat) = 2)
    (cA : ∀ fl : Int, (fl = 0 ∨ fl = 4) → Gives 13 #[.int .i64 o, .int .i64 v, .int .i64 fl, .int .u64 a, .int .u64 b] (aplT v o fl a b)) :
    Calls Try.prog 7 #[.int .i64 a0, .int .i64 a1, .int .u64 a, .int .u64 b] w fun e w' => e = .returned (.bool true) ∧ Grown w w' := by
  have cF := (Gives.of_same (Flags_any o)).as (one_eq hF)
  have bad : ∀ f, ¬ bits .andNot .i64 f 4 = 0 → Gives 13 #[.int .i64 o, .int .i64 v, .int .i64 f, .int .u64 a, .int .u64 b] (.tuple #[.int .u64 0, .int .i64 3]) :=
    fun f h => Apply_fl o v f a b (by omega) (by omega) g1 g2 (by rw [hF]; exact h)
  rcases hp with hp | hp | hp
  · cases hs : lrB v.toNat o (a % pw v.toNat) (b % pw v.toNat)
    · exact flB3 a0 a1 a b o r v w kr r0 r1 ko cl cw _ cF ((cA 0 (by decide)).as (aplT_n hp (by simp [brB, hs]))) (bad 1 (by decide +kernel)) (bad 2 (by decide +kernel)) (bad 3 (by decide +kernel)) ((cA 4 (by decide)).as (aplT_n hp (by simp [brB, hs]))) (bad 5 (by decide +kernel)) (bad 6 (by decide +kernel)) (bad 7 (by decide +kernel))
    · exact flB4 a0 a1 a b o r v w kr r0 r1 ko cl cw _ cF ((cA 0 (by decide)).as (aplT_n hp (by simp [brB, hs]))) (bad 1 (by decide +kernel)) (bad 2 (by decide +kernel)) (bad 3 (by decide +kernel)) ((cA 4 (by decide)).as (aplT_p hp (by simp [brB, hs]))) (bad 5 (by decide +kernel)) (bad 6 (by decide +kernel)) (bad 7 (by decide +kernel))
  · exact flB1 a0 a1 a b o r v w kr r0 r1 ko cl cw 0 cF ((cA 0 (by decide)).as (aplT_e 1 hp (by decide))) (bad 1 (by decide +kernel)) (bad 2 (by decide +kernel)) (bad 3 (by decide +kernel)) ((cA 4 (by decide)).as (aplT_e 1 hp (by decide))) (bad 5 (by decide +kernel)) (bad 6 (by decide +kernel)) (bad 7 (by decide +kernel))
  · exact flB2 a0 a1 a b o r v w kr r0 r1 ko cl cw 0 cF ((cA 0 (by decide)).as (aplT_e 2 hp (by decide))) (bad 1 (by decide +kernel)) (bad 2 (by decide +kernel)) (bad 3 (by decide +kernel)) ((cA 4 (by decide)).as (aplT_e 2 hp (by decide))) (bad 5 (by decide +kernel)) (bad 6 (by decide +kernel)) (bad 7 (by decide +kernel))
theorem flD (a0 a1 a b o r v : Int) (w : World) (kr : IntKind.u64.wrap a0 % 13 = r) (r0 : 0 ≤ r) (r1 : r ≤ 12) (ko : 1 + r = o)
    (cl : Gives 12 #[] (.bool true)) (cw : Gives 23 #[.int .i64 a1] (.int .i64 v)) (g1 : 1 ≤ v) (g2 : v ≤ 64) (hF : flg o = 0)
    (cA : ∀ fl : Int, fl = 0 → Gives 13 #[.int .i64 o, .int .i64 v, .int .i64 fl, .int .u64 a, .int .u64 b] (aplT v o fl a b)) :
    Calls Try.prog 7 #[.int .i64 a0, .int .i64 a1, .int .u64 a, .int .u64 b] w fun e w' => e = .returned (.bool true) ∧ Grown w w' := by
  have cF := (Gives.of_same (Flags_any o)).as (one_eq hF)
  have bad : ∀ f, ¬ bits .andNot .i64 f 0 = 0 → Gives 13 #[.int .i64 o, .int .i64 v, .int .i64 f, .int .u64 a, .int .u64 b] (.tuple #[.int .u64 0, .int .i64 3]) :=
    fun f h => Apply_fl o v f a b (by omega) (by omega) g1 g2 (by rw [hF]; exact h)
  exact flC a0 a1 a b o r v w kr r0 r1 ko cl cw _ _ cF (cA 0 rfl) (bad 1 (by decide +kernel)) (bad 2 (by decide +kernel)) (bad 3 (by decide +kernel)) (bad 4 (by decide +kernel)) (bad 5 (by decide +kernel)) (bad 6 (by decide +kernel)) (bad 7 (by decide +kernel))
end Go.Proofs.Ythhdgfhndijmeaa
