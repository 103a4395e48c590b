/- Contracts of package bits: breaks and Apply. -/
import Derived.Test.YtpjfkmaceaikbaaBitsC
import Derived.Test.YtpjfkmaceaikbaaBitsD
namespace Go.Proofs.Ytpjfkmaceaikbaa
open Go.RowKit
set_option linter.unusedVariables false
set_option linter.unusedSimpArgs false

theorem breaks_0 (op w a b : Int) (wd : World)  :
    Calls Try.prog 76 #[.int .i64 op, .int .i64 w, .int .i64 0, .int .u64 a, .int .u64 b] wd fun e w' => e = .returned (.bool (brB w.toNat op 0 a b)) ∧ wd = w' := by
  have k2 : bits .and .i64 0 2 = 0 := by decide +kernel
  have k1 : bits .and .i64 0 1 = 0 := by decide +kernel
  have k4 : bits .and .i64 0 4 = 0 := by decide +kernel
  go_enter Try.func76, Try.ntmps76
  go_wp2
  go_ret
  exact ⟨ret_bool (by simp [brB]), rfl⟩
theorem breaks_1 (op w a b : Int) (wd : World) (cS : ∀ W, Calls Try.prog 90 #[.int .i64 op, .int .i64 w, .int .u64 a, .int .u64 b] W fun e w' => e = .returned (.bool (wsB w.toNat op a b)) ∧ W = w') :
    Calls Try.prog 76 #[.int .i64 op, .int .i64 w, .int .i64 1, .int .u64 a, .int .u64 b] wd fun e w' => e = .returned (.bool (brB w.toNat op 1 a b)) ∧ wd = w' := by
  have k2 : bits .and .i64 1 2 = 0 := by decide +kernel
  have k1 : bits .and .i64 1 1 = 1 := by decide +kernel
  have k4 : bits .and .i64 1 4 = 0 := by decide +kernel
  cases hS : wsB w.toNat op a b
  all_goals
    rw [hS] at cS
    have HS := Lib.hid hS
    clear hS
    go_enter Try.func76, Try.ntmps76
    go_wp2_with (first | (go_at_call 90; refine (cS _).mono ?_; rintro e w' ⟨rfl, rfl⟩))
    go_ret
    exact ⟨ret_bool (by simp [brB, HS.out]), rfl⟩
theorem breaks_2 (op w a b : Int) (wd : World) (cW : ∀ W, Calls Try.prog 89 #[.int .i64 op, .int .i64 w, .int .u64 a, .int .u64 b] W fun e w' => e = .returned (.bool (wrB w.toNat op a b)) ∧ W = w') :
    Calls Try.prog 76 #[.int .i64 op, .int .i64 w, .int .i64 2, .int .u64 a, .int .u64 b] wd fun e w' => e = .returned (.bool (brB w.toNat op 2 a b)) ∧ wd = w' := by
  have k2 : bits .and .i64 2 2 = 2 := by decide +kernel
  have k1 : bits .and .i64 2 1 = 0 := by decide +kernel
  have k4 : bits .and .i64 2 4 = 0 := by decide +kernel
  cases hW : wrB w.toNat op a b
  all_goals
    rw [hW] at cW
    have HW := Lib.hid hW
    clear hW
    go_enter Try.func76, Try.ntmps76
    go_wp2_with (first | (go_at_call 89; refine (cW _).mono ?_; rintro e w' ⟨rfl, rfl⟩))
    go_ret
    exact ⟨ret_bool (by simp [brB, HW.out]), rfl⟩
theorem breaks_3 (op w a b : Int) (wd : World) (cW : ∀ W, Calls Try.prog 89 #[.int .i64 op, .int .i64 w, .int .u64 a, .int .u64 b] W fun e w' => e = .returned (.bool (wrB w.toNat op a b)) ∧ W = w') (cS : ∀ W, Calls Try.prog 90 #[.int .i64 op, .int .i64 w, .int .u64 a, .int .u64 b] W fun e w' => e = .returned (.bool (wsB w.toNat op a b)) ∧ W = w') :
    Calls Try.prog 76 #[.int .i64 op, .int .i64 w, .int .i64 3, .int .u64 a, .int .u64 b] wd fun e w' => e = .returned (.bool (brB w.toNat op 3 a b)) ∧ wd = w' := by
  have k2 : bits .and .i64 3 2 = 2 := by decide +kernel
  have k1 : bits .and .i64 3 1 = 1 := by decide +kernel
  have k4 : bits .and .i64 3 4 = 0 := by decide +kernel
  cases hW : wrB w.toNat op a b <;> cases hS : wsB w.toNat op a b
  all_goals
    rw [hW] at cW
    have HW := Lib.hid hW
    rw [hS] at cS
    have HS := Lib.hid hS
    clear hW hS
    go_enter Try.func76, Try.ntmps76
    go_wp2_with (first | (go_at_call 89; refine (cW _).mono ?_; rintro e w' ⟨rfl, rfl⟩) | (go_at_call 90; refine (cS _).mono ?_; rintro e w' ⟨rfl, rfl⟩))
    go_ret
    exact ⟨ret_bool (by simp [brB, HW.out, HS.out]), rfl⟩
theorem breaks_4 (op w a b : Int) (wd : World) (cL : ∀ W, Calls Try.prog 91 #[.int .i64 op, .int .i64 w, .int .u64 a, .int .u64 b] W fun e w' => e = .returned (.bool (lrB w.toNat op a b)) ∧ W = w') :
    Calls Try.prog 76 #[.int .i64 op, .int .i64 w, .int .i64 4, .int .u64 a, .int .u64 b] wd fun e w' => e = .returned (.bool (brB w.toNat op 4 a b)) ∧ wd = w' := by
  have k2 : bits .and .i64 4 2 = 0 := by decide +kernel
  have k1 : bits .and .i64 4 1 = 0 := by decide +kernel
  have k4 : bits .and .i64 4 4 = 4 := by decide +kernel
  cases hL : lrB w.toNat op a b
  all_goals
    rw [hL] at cL
    have HL := Lib.hid hL
    clear hL
    go_enter Try.func76, Try.ntmps76
    go_wp2_with (first | (go_at_call 91; refine (cL _).mono ?_; rintro e w' ⟨rfl, rfl⟩))
    go_ret
    exact ⟨ret_bool (by simp [brB, HL.out]), rfl⟩

theorem Apply_gen (op fl F w a b : Int) (wd : World) (h1 : 1 ≤ w) (h2 : w ≤ 64) (ha : 0 ≤ a) (ha' : a ≤ 18446744073709551615) (hb : 0 ≤ b) (hb' : b ≤ 18446744073709551615)
    (o1 : 1 ≤ op) (o2 : op ≤ 19) (hF : flg op = F) (hfl : bits .andNot .i64 fl F = 0)
    (cP : ∀ x y W, 0 ≤ x → x < pw w.toNat → 0 ≤ y → y < pw w.toNat → Calls Try.prog 75 #[.int .i64 op, .int .i64 w, .int .u64 x, .int .u64 y] W fun e w' => e = .returned (.tuple #[.int .u64 (plR w.toNat op x y), .int .i64 (plE w.toNat op x y)]) ∧ ∃ n, w' = W.drewN n)
    (cB : ∀ x y W, 0 ≤ x → x < pw w.toNat → 0 ≤ y → y < pw w.toNat → plE w.toNat op x y = 0 → Calls Try.prog 76 #[.int .i64 op, .int .i64 w, .int .i64 fl, .int .u64 x, .int .u64 y] W fun e w' => e = .returned (.bool (brB w.toNat op fl x y)) ∧ W = w') :
    Calls Try.prog 69 #[.int .i64 op, .int .i64 w, .int .i64 fl, .int .u64 a, .int .u64 b] wd fun e w' => e = .returned (.tuple #[.int .u64 (aplR w.toNat op fl (a % pw w.toNat) (b % pw w.toNat)), .int .i64 (aplE w.toNat op fl (a % pw w.toNat) (b % pw w.toNat))]) ∧ ∃ n, w' = wd.drewN n := by
  have hw : isW w = true := isW_iff.2 ⟨h1, h2⟩
  have cW : ∀ W, Calls Try.prog 57 #[.int .i64 w] W fun e w' => e = .returned (.bool true) ∧ W = w' := by intro W; rw [← hw]; exact isWidth_any w W
  have cF : ∀ W, Calls Try.prog 35 #[.int .i64 op] W fun e w' => e = .returned (.int .i64 F) ∧ W = w' := by intro W; rw [← hF]; exact Flags_any op W
  have hx := and_msk w a h1 h2 ha (by omega)
  have hy := and_msk w b h1 h2 hb (by omega)
  have hx1 := Int.emod_nonneg a (show pw w.toNat ≠ 0 by have := pw_pos w.toNat; omega)
  have hx2 := Int.emod_lt_of_pos a (pw_pos w.toNat)
  have hy1 := Int.emod_nonneg b (show pw w.toNat ≠ 0 by have := pw_pos w.toNat; omega)
  have hy2 := Int.emod_lt_of_pos b (pw_pos w.toNat)
  generalize a % pw w.toNat = x at *
  generalize b % pw w.toNat = y at *
  have cP' := fun W => cP x y W hx1 hx2 hy1 hy2
  have cB' := fun h W => cB x y W hx1 hx2 hy1 hy2 h
  clear hw hF cP cB hx1 hx2 hy1 hy2
  by_cases hE : plE w.toNat op x y = 0
  · have cB2 := cB' hE
    rw [hE] at cP'
    have hR : plR w.toNat op x y = plV w.toNat op x y := by simp [plR, hE]
    rw [hR] at cP'
    have HE := Lib.hid hE
    clear hE hR cB'
    cases hb3 : brB w.toNat op fl x y
    all_goals
      rw [hb3] at cB2
      have HB := Lib.hid hb3
      clear hb3
      go_enter Try.func69, Try.ntmps69
      go_wp2_with (first | (go_at_call 57; refine (cW _).mono ?_; rintro e w' ⟨rfl, rfl⟩) | (go_at_call 35; refine (cF _).mono ?_; rintro e w' ⟨rfl, rfl⟩) | (go_at_call 38; refine (Mask_any _ _).mono ?_; rintro e w' ⟨rfl, rfl⟩) | (go_at_call 75; refine (cP' _).mono ?_; rintro e w' ⟨rfl, n, rfl⟩) | (go_at_call 76; refine (cB2 _).mono ?_; rintro e w' ⟨rfl, rfl⟩))
      go_ret2
      exact ⟨ret_two (by simp [aplR, aplE, HE.out, HB.out]) (by simp [aplE, HE.out, HB.out]), _, rfl⟩
  · have hR : plR w.toNat op x y = 0 := by simp [plR, hE]
    rw [hR] at cP'
    have HE := Lib.hid hE
    have hE' : (plE w.toNat op x y == 0) = false := by simpa using hE
    clear hR cB' hE
    go_enter Try.func69, Try.ntmps69
    go_wp2_with (first | (go_at_call 57; refine (cW _).mono ?_; rintro e w' ⟨rfl, rfl⟩) | (go_at_call 35; refine (cF _).mono ?_; rintro e w' ⟨rfl, rfl⟩) | (go_at_call 38; refine (Mask_any _ _).mono ?_; rintro e w' ⟨rfl, rfl⟩) | (go_at_call 75; refine (cP' _).mono ?_; rintro e w' ⟨rfl, n, rfl⟩))
    go_ret2
    exact ⟨ret_two (by simp [aplR, aplE, HE.out]) (by simp [aplE, HE.out]), _, rfl⟩
end Go.Proofs.Ytpjfkmaceaikbaa
