/- Contracts of the small functions of package bits: isWidth, Mask, Signed, Flags, leastSigned. -/
import Derived.Test.YtpjfkmaceaikbaaRows
import Derived.Test.YtpjfkmaceaikbaaBitsM
import Derived.ProofKit
import Derived.OpenShut
import Derived.Deep.QuietTactic
import Derived.BigQuiet
namespace Go.Proofs.Ytpjfkmaceaikbaa
open Go.RowKit
set_option linter.unusedVariables false
set_option linter.unusedSimpArgs false

theorem quiet_left {P : Program} {f : FuncId} {args : Array Value} {w : World} {n : Nat} {v : Value}
    (h : Calls P f args (w.drewN n) fun e w' => e = .returned v ∧ w.drewN n = w') : Calls P f args (w.drewN n) fun e w'' => e = .returned v ∧ ∃ m, w'' = w.drewN m :=
  h.mono fun _ _ ⟨he, hm⟩ => ⟨he, n, hm.symm⟩
theorem quiet_add_left {P : Program} {f : FuncId} {args : Array Value} {w : World} {a n : Nat} {v : Value}
    (h : Calls P f args (w.drewN (a + n)) fun e w' => e = .returned v ∧ w.drewN (a + n) = w') :
    Calls P f args (w.drewN (a + n)) fun e w'' => e = .returned v ∧ ∃ m, w'' = w.drewN (a + m) :=
  h.mono fun _ _ ⟨he, hm⟩ => ⟨he, n, hm.symm⟩
theorem quiet_add {P : Program} {f : FuncId} {args : Array Value} {w : World} {a n : Nat} {v : Value}
    (h : Calls P f args (w.drewN (a + n)) fun e w' => e = .returned v ∧ ∃ m, w' = (w.drewN (a + n)).drewN m) :
    Calls P f args (w.drewN (a + n)) fun e w'' => e = .returned v ∧ ∃ m, w'' = w.drewN (a + m) :=
  h.mono fun _ _ ⟨he, m, hm⟩ => ⟨he, n + m, by rw [hm, World.drewN_drewN, Nat.add_assoc]⟩

theorem isWidth_any (w : Int) (wd : World) :
    Calls Try.prog 57 #[.int .i64 w] wd fun e w' => e = .returned (.bool (isW w)) ∧ wd = w' := by
  by_cases h1 : 1 ≤ w <;> by_cases h2 : w ≤ 64
  all_goals
    go_enter Try.func57, Try.ntmps57
    go_wp2
    go_ret
    exact ⟨by simp [isW, h1, h2], rfl⟩

theorem Mask_any (w : Int) (wd : World) :
    Calls Try.prog 38 #[.int .i64 w] wd fun e w' => e = .returned (.int .u64 (msk w)) ∧ wd = w' := by
  by_cases hw : isW w = true
  · obtain ⟨h1, h2⟩ := isW_iff.1 hw
    go_enter Try.func38, Try.ntmps38
    go_wp2_with (go_at_call 57; refine (isWidth_any _ _).mono ?_; rintro e w' ⟨rfl, rfl⟩)
    go_ret
    exact ⟨ret_int (msk_raw w h1 h2), rfl⟩
  · have hw' : isW w = false := by simpa using hw
    clear hw
    go_enter Try.func38, Try.ntmps38
    go_wp2_with (go_at_call 57; refine (isWidth_any _ _).mono ?_; rintro e w' ⟨rfl, rfl⟩)
    go_ret
    exact ⟨by simp [msk, hw'], rfl⟩

theorem Signed_any (w v : Int) (wd : World) :
    Calls Try.prog 63 #[.int .i64 w, .int .u64 v] wd fun e w' => e = .returned (.int .i64 (sgn w v)) ∧ wd = w' := by
  by_cases hw : isW w = true
  · obtain ⟨h1, h2⟩ := isW_iff.1 hw
    go_enter Try.func63, Try.ntmps63
    go_wp2_with (go_at_call 57; refine (isWidth_any _ _).mono ?_; rintro e w' ⟨rfl, rfl⟩)
    go_ret
    exact ⟨ret_int (sgn_raw w v h1 h2), rfl⟩
  · have hw' : isW w = false := by simpa using hw
    clear hw
    go_enter Try.func63, Try.ntmps63
    go_wp2_with (go_at_call 57; refine (isWidth_any _ _).mono ?_; rintro e w' ⟨rfl, rfl⟩)
    go_ret
    exact ⟨by simp [sgn, hw'], rfl⟩

theorem Flags_any (op : Int) (wd : World) :
    Calls Try.prog 35 #[.int .i64 op] wd fun e w' => e = .returned (.int .i64 (flg op)) ∧ wd = w' := by
  go_enter Try.func35, Try.ntmps35
  go_wp2
  all_goals
    go_ret
    refine ⟨ret_int ?_, rfl⟩
    show _ = flg op
    simp_all [flg]

theorem leastSigned_any (w : Int) (wd : World) (h1 : 1 ≤ w) (h2 : w ≤ 64) :
    Calls Try.prog 95 #[.int .i64 w] wd fun e w' => e = .returned (.int .u64 (pw (w.toNat - 1))) ∧ wd = w' := by
  go_enter Try.func95, Try.ntmps95
  go_wp2
  go_ret
  refine ⟨ret_int ?_, rfl⟩
  show IntKind.u64.wrap (2 ^ (w.toNat - 1)) = _
  have := pw_le63 (n := w.toNat - 1) (by omega)
  have := pw_pos (w.toNat - 1)
  rw [u64w, pw_eq]
  omega
end Go.Proofs.Ytpjfkmaceaikbaa
