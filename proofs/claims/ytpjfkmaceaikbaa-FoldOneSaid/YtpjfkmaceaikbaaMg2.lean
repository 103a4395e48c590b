/- Several texts in one: BitsD, BitsE, BitsF, BitsI, BitsG, RefA, RefB. -/
import Derived.Lib.Hide
import Derived.Below
import Derived.Test.YtpjfkmaceaikbaaMg1
namespace Go.Proofs.Ytpjfkmaceaikbaa
open Go.RowKit
set_option linter.unusedVariables false
set_option linter.unusedSimpArgs false

theorem wraps_1 (w a b : Int) (wd : World) (h1 : 1 ≤ w) (h2 : w ≤ 64) (ha : 0 ≤ a) (ha' : a < pw w.toNat) (hb : 0 ≤ b) (hb' : b < pw w.toNat) :
    Calls Try.prog 89 #[.int .i64 1, .int .i64 w, .int .u64 a, .int .u64 b] wd fun e w' => e = .returned (.bool (wrB w.toNat 1 a b)) ∧ wd = w' := by
  have hm := msk_in h1 h2
  have hp := pw_le64 (n := w.toNat) (by omega)
  have m1 : a ≤ msk w := by omega
  have m2 : msk w ≤ 18446744073709551615 := by omega
  have m3 : b ≤ msk w := by omega
  have HM := Lib.hid hm
  clear hm hp ha' hb'
  go_enter Try.func89, Try.ntmps89
  go_wp2_with (first | (go_at_call 38; refine (Mask_any _ _).mono ?_; rintro e w' ⟨rfl, rfl⟩) | (go_at_call 96; refine (exceeds_any _ _ _ _ (by omega) (by omega) (by omega) (by omega)).mono ?_; rintro e w' ⟨rfl, rfl⟩))
  go_ret
  exact ⟨ret_bool (wrB1_raw HM.out ha hb), rfl⟩
theorem wraps_2 (w a b : Int) (wd : World) (h1 : 1 ≤ w) (h2 : w ≤ 64) (ha : 0 ≤ a) (ha' : a < pw w.toNat) (hb : 0 ≤ b) (hb' : b < pw w.toNat) :
    Calls Try.prog 89 #[.int .i64 2, .int .i64 w, .int .u64 a, .int .u64 b] wd fun e w' => e = .returned (.bool (wrB w.toNat 2 a b)) ∧ wd = w' := by
  have hm := msk_in h1 h2
  have hp := pw_le64 (n := w.toNat) (by omega)
  have m1 : a ≤ msk w := by omega
  have m2 : msk w ≤ 18446744073709551615 := by omega
  have m3 : b ≤ msk w := by omega
  have HM := Lib.hid hm
  have HR := Lib.hid (wrB2_raw ha ha' hb)
  clear hm hp ha' hb'
  go_enter Try.func89, Try.ntmps89
  go_wp2_with (first | (go_at_call 38; refine (Mask_any _ _).mono ?_; rintro e w' ⟨rfl, rfl⟩) | (go_at_call 96; refine (exceeds_any _ _ _ _ (by omega) (by omega) (by omega) (by omega)).mono ?_; rintro e w' ⟨rfl, rfl⟩))
  go_ret
  exact ⟨ret_bool (HR.out), rfl⟩
theorem wraps_3 (w a b : Int) (wd : World) (h1 : 1 ≤ w) (h2 : w ≤ 64) (ha : 0 ≤ a) (ha' : a < pw w.toNat) (hb : 0 ≤ b) (hb' : b < pw w.toNat) :
    Calls Try.prog 89 #[.int .i64 3, .int .i64 w, .int .u64 a, .int .u64 b] wd fun e w' => e = .returned (.bool (wrB w.toNat 3 a b)) ∧ wd = w' := by
  have hm := msk_in h1 h2
  have hp := pw_le64 (n := w.toNat) (by omega)
  have m1 : a ≤ msk w := by omega
  have m2 : msk w ≤ 18446744073709551615 := by omega
  have m3 : b ≤ msk w := by omega
  have HM := Lib.hid hm
  clear hm hp ha' hb'
  go_enter Try.func89, Try.ntmps89
  go_wp2_with (first | (go_at_call 38; refine (Mask_any _ _).mono ?_; rintro e w' ⟨rfl, rfl⟩) | (go_at_call 96; refine (exceeds_any _ _ _ _ (by omega) (by omega) (by omega) (by omega)).mono ?_; rintro e w' ⟨rfl, rfl⟩))
  go_ret
  exact ⟨ret_bool (wrB3_raw HM.out ha hb), rfl⟩
theorem wraps_11 (w a b : Int) (wd : World) (h1 : 1 ≤ w) (h2 : w ≤ 64) (ha : 0 ≤ a) (ha' : a < pw w.toNat) (hb : 0 ≤ b) (hb' : b < pw w.toNat) (hy : b < w) :
    Calls Try.prog 89 #[.int .i64 11, .int .i64 w, .int .u64 a, .int .u64 b] wd fun e w' => e = .returned (.bool (wrB w.toNat 11 a b)) ∧ wd = w' := by
  have hm := msk_in h1 h2
  have hp := pw_le64 (n := w.toNat) (by omega)
  have m1 : a ≤ msk w := by omega
  have m2 : msk w ≤ 18446744073709551615 := by omega
  have m3 : b ≤ msk w := by omega
  have HM := Lib.hid hm
  clear hm hp ha' hb'
  go_enter Try.func89, Try.ntmps89
  go_wp2_with (first | (go_at_call 38; refine (Mask_any _ _).mono ?_; rintro e w' ⟨rfl, rfl⟩) | (go_at_call 96; refine (exceeds_any _ _ _ _ (by omega) (by omega) (by omega) (by omega)).mono ?_; rintro e w' ⟨rfl, rfl⟩))
  go_ret
  exact ⟨ret_bool (wrB11_raw HM.out ha), rfl⟩
theorem leavesRest_4 (w a b : Int) (wd : World) (h1 : 1 ≤ w) (h2 : w ≤ 64) (ha : 0 ≤ a) (ha' : a < pw w.toNat) (hb : 0 ≤ b) (hb' : b < pw w.toNat) (hy : b ≠ 0) :
    Calls Try.prog 91 #[.int .i64 4, .int .i64 w, .int .u64 a, .int .u64 b] wd fun e w' => e = .returned (.bool (lrB w.toNat 4 a b)) ∧ wd = w' := by
  have hp := pw_le64 (n := w.toNat) (by omega)
  have m1 : a ≤ 18446744073709551615 := by omega
  have m3 : b ≤ 18446744073709551615 := by omega
  clear hp ha' hb'
  have h3 : 1 ≤ b := by omega
  clear hy
  go_enter Try.func91, Try.ntmps91
  go_wp2_with (go_at_call 63; refine (Signed_any _ _ _).mono ?_; rintro e w' ⟨rfl, rfl⟩)
  go_ret
  exact ⟨ret_bool (rfl), rfl⟩
theorem leavesRest_5 (w a b : Int) (wd : World) (h1 : 1 ≤ w) (h2 : w ≤ 64) (ha : 0 ≤ a) (ha' : a < pw w.toNat) (hb : 0 ≤ b) (hb' : b < pw w.toNat) (hy : b ≠ 0) :
    Calls Try.prog 91 #[.int .i64 5, .int .i64 w, .int .u64 a, .int .u64 b] wd fun e w' => e = .returned (.bool (lrB w.toNat 5 a b)) ∧ wd = w' := by
  have ea : sg w.toNat a = sgn w a := by rw [sgn_in _ h1 h2, Int.emod_eq_of_lt ha ha']
  have eb : sg w.toNat b = sgn w b := by rw [sgn_in _ h1 h2, Int.emod_eq_of_lt hb hb']
  have h3 : ¬ sgn w b = 0 := by rw [← eb]; exact sg_nz (by omega) hb hb' hy
  have EA := Lib.hid ea
  have EB := Lib.hid eb
  clear ea eb ha ha' hb hb' hy
  go_enter Try.func91, Try.ntmps91
  go_wp2_with (go_at_call 63; refine (Signed_any _ _ _).mono ?_; rintro e w' ⟨rfl, rfl⟩)
  go_ret
  exact ⟨ret_bool (by rw [← EA.out, ← EB.out]; rfl), rfl⟩
theorem leavesRest_12 (w a b : Int) (wd : World) (h1 : 1 ≤ w) (h2 : w ≤ 64) (ha : 0 ≤ a) (ha' : a < pw w.toNat) (hb : 0 ≤ b) (hb' : b < pw w.toNat) (hy : b < w) :
    Calls Try.prog 91 #[.int .i64 12, .int .i64 w, .int .u64 a, .int .u64 b] wd fun e w' => e = .returned (.bool (lrB w.toNat 12 a b)) ∧ wd = w' := by
  have hp := pw_le64 (n := w.toNat) (by omega)
  have m1 : a ≤ 18446744073709551615 := by omega
  have m3 : b ≤ 18446744073709551615 := by omega
  clear hp ha' hb'
  go_enter Try.func91, Try.ntmps91
  go_wp2_with (go_at_call 63; refine (Signed_any _ _ _).mono ?_; rintro e w' ⟨rfl, rfl⟩)
  go_ret
  exact ⟨ret_bool (lrB_raw (.inl rfl) ha m1), rfl⟩
theorem leavesRest_13 (w a b : Int) (wd : World) (h1 : 1 ≤ w) (h2 : w ≤ 64) (ha : 0 ≤ a) (ha' : a < pw w.toNat) (hb : 0 ≤ b) (hb' : b < pw w.toNat) (hy : b < w) :
    Calls Try.prog 91 #[.int .i64 13, .int .i64 w, .int .u64 a, .int .u64 b] wd fun e w' => e = .returned (.bool (lrB w.toNat 13 a b)) ∧ wd = w' := by
  have hp := pw_le64 (n := w.toNat) (by omega)
  have m1 : a ≤ 18446744073709551615 := by omega
  have m3 : b ≤ 18446744073709551615 := by omega
  clear hp ha' hb'
  go_enter Try.func91, Try.ntmps91
  go_wp2_with (go_at_call 63; refine (Signed_any _ _ _).mono ?_; rintro e w' ⟨rfl, rfl⟩)
  go_ret
  exact ⟨ret_bool (lrB_raw (.inr rfl) ha m1), rfl⟩
theorem wrapsSigned_1 (w a b : Int) (wd : World) (h1 : 1 ≤ w) (h2 : w ≤ 64) (ha : 0 ≤ a) (ha' : a < pw w.toNat) (hb : 0 ≤ b) (hb' : b < pw w.toNat) :
    Calls Try.prog 90 #[.int .i64 1, .int .i64 w, .int .u64 a, .int .u64 b] wd fun e w' => e = .returned (.bool (wsB w.toNat 1 a b)) ∧ wd = w' := by
  have E := Lib.hid (ws1_raw h1 h2 ha ha' hb hb')
  cases hs : decide (sgn w a < 0) <;> cases ht : decide (sgn w b < 0)
  all_goals
    have HS := Lib.hid hs
    have HT := Lib.hid ht
    go_enter Try.func90, Try.ntmps90
    go_wp2_with (first | (go_at_call 97; refine (isBelow_any _ _ _).mono ?_; rintro e w' ⟨rfl, rfl⟩) | (go_at_call 63; refine (Signed_any _ _ _).mono ?_; rintro e w' ⟨rfl, rfl⟩))
    go_ret
    exact ⟨ret_bool (by rw [← E.out, HS.out, HT.out]; simp), rfl⟩
theorem wrapsSigned_2 (w a b : Int) (wd : World) (h1 : 1 ≤ w) (h2 : w ≤ 64) (ha : 0 ≤ a) (ha' : a < pw w.toNat) (hb : 0 ≤ b) (hb' : b < pw w.toNat) :
    Calls Try.prog 90 #[.int .i64 2, .int .i64 w, .int .u64 a, .int .u64 b] wd fun e w' => e = .returned (.bool (wsB w.toNat 2 a b)) ∧ wd = w' := by
  have E := Lib.hid (ws2_raw h1 h2 ha ha' hb hb')
  cases hs : decide (sgn w a < 0) <;> cases ht : decide (sgn w b < 0)
  all_goals
    have HS := Lib.hid hs
    have HT := Lib.hid ht
    go_enter Try.func90, Try.ntmps90
    go_wp2_with (first | (go_at_call 97; refine (isBelow_any _ _ _).mono ?_; rintro e w' ⟨rfl, rfl⟩) | (go_at_call 63; refine (Signed_any _ _ _).mono ?_; rintro e w' ⟨rfl, rfl⟩))
    go_ret
    exact ⟨ret_bool (by rw [← E.out, HS.out, HT.out]; simp), rfl⟩
theorem wrapsSigned_3 (w a b : Int) (wd : World) (h1 : 1 ≤ w) (h2 : w ≤ 64) (ha : 0 ≤ a) (ha' : a < pw w.toNat) (hb : 0 ≤ b) (hb' : b < pw w.toNat) :
    Calls Try.prog 90 #[.int .i64 3, .int .i64 w, .int .u64 a, .int .u64 b] wd fun e w' => e = .returned (.bool (wsB w.toNat 3 a b)) ∧ wd = w' := by
  have E := Lib.hid (ws3_raw h1 h2 ha ha' hb hb')
  have b1 := sgn_bd w a
  have b2 := sgn_bd w b
  have b3 := pw_le63 (n := w.toNat - 1) (by omega)
  have b4 := pw_pos (w.toNat - 1)
  have g1 : 0 ≤ mag (sgn w a) := by unfold mag; split <;> omega
  have g2 : 0 ≤ mag (sgn w b) := by unfold mag; split <;> omega
  cases hs : decide (sgn w a < 0) <;> cases ht : decide (sgn w b < 0)
  all_goals
    have HS := Lib.hid hs
    have HT := Lib.hid ht
    go_enter Try.func90, Try.ntmps90
    go_wp2_with (first | (go_at_call 97; refine (isBelow_any _ _ _).mono ?_; rintro e w' ⟨rfl, rfl⟩) | (go_at_call 95; refine (leastSigned_any _ _ h1 h2).mono ?_; rintro e w' ⟨rfl, rfl⟩) | (go_at_call 98; refine (size_any _ _ _ h1 h2 (by omega) (by omega)).mono ?_; rintro e w' ⟨rfl, rfl⟩) | (go_at_call 96; refine (exceeds_any _ _ _ _ (by omega) (by omega) (by omega) (by omega)).mono ?_; rintro e w' ⟨rfl, rfl⟩))
    go_ret
    exact ⟨ret_bool (by rw [← E.out, HS.out, HT.out]; simp), rfl⟩
theorem wrapsSigned_11 (w a b : Int) (wd : World) (h1 : 1 ≤ w) (h2 : w ≤ 64) (ha : 0 ≤ a) (ha' : a < pw w.toNat) (hb : 0 ≤ b) (hb' : b < pw w.toNat) (hy : b < w) :
    Calls Try.prog 90 #[.int .i64 11, .int .i64 w, .int .u64 a, .int .u64 b] wd fun e w' => e = .returned (.bool (wsB w.toNat 11 a b)) ∧ wd = w' := by
  have E := Lib.hid (ws11_raw h1 h2 ha ha' hb hy)
  go_enter Try.func90, Try.ntmps90
  go_wp2_with (first | (go_at_call 97; refine (isBelow_any _ _ _).mono ?_; rintro e w' ⟨rfl, rfl⟩) | (go_at_call 63; refine (Signed_any _ _ _).mono ?_; rintro e w' ⟨rfl, rfl⟩))
  go_ret
  exact ⟨ret_bool E.out, rfl⟩
theorem breaks_0 (op w a b : Int) (wd : World)  :
    Calls Try.prog 76 #[.int .i64 op, .int .i64 w, .int .i64 0, .int .u64 a, .int .u64 b] wd fun e w' => e = .returned (.bool (brB w.toNat op 0 a b)) ∧ wd = w' := by
  have k2 : bits .and .i64 0 2 = 0 := by decide +kernel
  have k1 : bits .and .i64 0 1 = 0 := by decide +kernel
  have k4 : bits .and .i64 0 4 = 0 := by decide +kernel
  go_enter Try.func76, Try.ntmps76
  go_wp2
  go_ret
  exact ⟨ret_bool (by simp [brB]), rfl⟩
theorem breaks_1 (op w a b : Int) (wd : World) (cS : ∀ W, Calls Try.prog 90 #[.int .i64 op, .int .i64 w, .int .u64 a, .int .u64 b] W fun e w' => e = .returned (.bool (wsB w.toNat op a b)) ∧ W = w') :
    Calls Try.prog 76 #[.int .i64 op, .int .i64 w, .int .i64 1, .int .u64 a, .int .u64 b] wd fun e w' => e = .returned (.bool (brB w.toNat op 1 a b)) ∧ wd = w' := by
  have k2 : bits .and .i64 1 2 = 0 := by decide +kernel
  have k1 : bits .and .i64 1 1 = 1 := by decide +kernel
  have k4 : bits .and .i64 1 4 = 0 := by decide +kernel
  cases hS : wsB w.toNat op a b
  all_goals
    rw [hS] at cS
    have HS := Lib.hid hS
    clear hS
    go_enter Try.func76, Try.ntmps76
    go_wp2_with (first | (go_at_call 90; refine (cS _).mono ?_; rintro e w' ⟨rfl, rfl⟩))
    go_ret
    exact ⟨ret_bool (by simp [brB, HS.out]), rfl⟩
theorem breaks_2 (op w a b : Int) (wd : World) (cW : ∀ W, Calls Try.prog 89 #[.int .i64 op, .int .i64 w, .int .u64 a, .int .u64 b] W fun e w' => e = .returned (.bool (wrB w.toNat op a b)) ∧ W = w') :
    Calls Try.prog 76 #[.int .i64 op, .int .i64 w, .int .i64 2, .int .u64 a, .int .u64 b] wd fun e w' => e = .returned (.bool (brB w.toNat op 2 a b)) ∧ wd = w' := by
  have k2 : bits .and .i64 2 2 = 2 := by decide +kernel
  have k1 : bits .and .i64 2 1 = 0 := by decide +kernel
  have k4 : bits .and .i64 2 4 = 0 := by decide +kernel
  cases hW : wrB w.toNat op a b
  all_goals
    rw [hW] at cW
    have HW := Lib.hid hW
    clear hW
    go_enter Try.func76, Try.ntmps76
    go_wp2_with (first | (go_at_call 89; refine (cW _).mono ?_; rintro e w' ⟨rfl, rfl⟩))
    go_ret
    exact ⟨ret_bool (by simp [brB, HW.out]), rfl⟩
theorem breaks_3 (op w a b : Int) (wd : World) (cW : ∀ W, Calls Try.prog 89 #[.int .i64 op, .int .i64 w, .int .u64 a, .int .u64 b] W fun e w' => e = .returned (.bool (wrB w.toNat op a b)) ∧ W = w') (cS : ∀ W, Calls Try.prog 90 #[.int .i64 op, .int .i64 w, .int .u64 a, .int .u64 b] W fun e w' => e = .returned (.bool (wsB w.toNat op a b)) ∧ W = w') :
    Calls Try.prog 76 #[.int .i64 op, .int .i64 w, .int .i64 3, .int .u64 a, .int .u64 b] wd fun e w' => e = .returned (.bool (brB w.toNat op 3 a b)) ∧ wd = w' := by
  have k2 : bits .and .i64 3 2 = 2 := by decide +kernel
  have k1 : bits .and .i64 3 1 = 1 := by decide +kernel
  have k4 : bits .and .i64 3 4 = 0 := by decide +kernel
  cases hW : wrB w.toNat op a b <;> cases hS : wsB w.toNat op a b
  all_goals
    rw [hW] at cW
    have HW := Lib.hid hW
    rw [hS] at cS
    have HS := Lib.hid hS
    clear hW hS
    go_enter Try.func76, Try.ntmps76
    go_wp2_with (first | (go_at_call 89; refine (cW _).mono ?_; rintro e w' ⟨rfl, rfl⟩) | (go_at_call 90; refine (cS _).mono ?_; rintro e w' ⟨rfl, rfl⟩))
    go_ret
    exact ⟨ret_bool (by simp [brB, HW.out, HS.out]), rfl⟩
theorem breaks_4 (op w a b : Int) (wd : World) (cL : ∀ W, Calls Try.prog 91 #[.int .i64 op, .int .i64 w, .int .u64 a, .int .u64 b] W fun e w' => e = .returned (.bool (lrB w.toNat op a b)) ∧ W = w') :
    Calls Try.prog 76 #[.int .i64 op, .int .i64 w, .int .i64 4, .int .u64 a, .int .u64 b] wd fun e w' => e = .returned (.bool (brB w.toNat op 4 a b)) ∧ wd = w' := by
  have k2 : bits .and .i64 4 2 = 0 := by decide +kernel
  have k1 : bits .and .i64 4 1 = 0 := by decide +kernel
  have k4 : bits .and .i64 4 4 = 4 := by decide +kernel
  cases hL : lrB w.toNat op a b
  all_goals
    rw [hL] at cL
    have HL := Lib.hid hL
    clear hL
    go_enter Try.func76, Try.ntmps76
    go_wp2_with (first | (go_at_call 91; refine (cL _).mono ?_; rintro e w' ⟨rfl, rfl⟩))
    go_ret
    exact ⟨ret_bool (by simp [brB, HL.out]), rfl⟩

theorem Apply_gen (op fl F w a b : Int) (wd : World) (h1 : 1 ≤ w) (h2 : w ≤ 64) (ha : 0 ≤ a) (ha' : a ≤ 18446744073709551615) (hb : 0 ≤ b) (hb' : b ≤ 18446744073709551615)
    (o1 : 1 ≤ op) (o2 : op ≤ 19) (hF : flg op = F) (hfl : bits .andNot .i64 fl F = 0)
    (cP : ∀ x y W, 0 ≤ x → x < pw w.toNat → 0 ≤ y → y < pw w.toNat → Calls Try.prog 75 #[.int .i64 op, .int .i64 w, .int .u64 x, .int .u64 y] W fun e w' => e = .returned (.tuple #[.int .u64 (plR w.toNat op x y), .int .i64 (plE w.toNat op x y)]) ∧ ∃ n, w' = W.drewN n)
    (cB : ∀ x y W, 0 ≤ x → x < pw w.toNat → 0 ≤ y → y < pw w.toNat → plE w.toNat op x y = 0 → Calls Try.prog 76 #[.int .i64 op, .int .i64 w, .int .i64 fl, .int .u64 x, .int .u64 y] W fun e w' => e = .returned (.bool (brB w.toNat op fl x y)) ∧ W = w') :
    Calls Try.prog 69 #[.int .i64 op, .int .i64 w, .int .i64 fl, .int .u64 a, .int .u64 b] wd fun e w' => e = .returned (.tuple #[.int .u64 (aplR w.toNat op fl (a % pw w.toNat) (b % pw w.toNat)), .int .i64 (aplE w.toNat op fl (a % pw w.toNat) (b % pw w.toNat))]) ∧ ∃ n, w' = wd.drewN n := by
  have hw : isW w = true := isW_iff.2 ⟨h1, h2⟩
  have cW : ∀ W, Calls Try.prog 57 #[.int .i64 w] W fun e w' => e = .returned (.bool true) ∧ W = w' := by intro W; rw [← hw]; exact isWidth_any w W
  have cF : ∀ W, Calls Try.prog 35 #[.int .i64 op] W fun e w' => e = .returned (.int .i64 F) ∧ W = w' := by intro W; rw [← hF]; exact Flags_any op W
  have hx := and_msk w a h1 h2 ha (by omega)
  have hy := and_msk w b h1 h2 hb (by omega)
  have hx1 := Int.emod_nonneg a (show pw w.toNat ≠ 0 by have := pw_pos w.toNat; omega)
  have hx2 := Int.emod_lt_of_pos a (pw_pos w.toNat)
  have hy1 := Int.emod_nonneg b (show pw w.toNat ≠ 0 by have := pw_pos w.toNat; omega)
  have hy2 := Int.emod_lt_of_pos b (pw_pos w.toNat)
  generalize a % pw w.toNat = x at *
  generalize b % pw w.toNat = y at *
  have cP' := fun W => cP x y W hx1 hx2 hy1 hy2
  have cB' := fun h W => cB x y W hx1 hx2 hy1 hy2 h
  clear hw hF cP cB hx1 hx2 hy1 hy2
  by_cases hE : plE w.toNat op x y = 0
  · have cB2 := cB' hE
    rw [hE] at cP'
    have hR : plR w.toNat op x y = plV w.toNat op x y := by simp [plR, hE]
    rw [hR] at cP'
    have HE := Lib.hid hE
    clear hE hR cB'
    cases hb3 : brB w.toNat op fl x y
    all_goals
      rw [hb3] at cB2
      have HB := Lib.hid hb3
      clear hb3
      go_enter Try.func69, Try.ntmps69
      go_wp2_with (first | (go_at_call 57; refine (cW _).mono ?_; rintro e w' ⟨rfl, rfl⟩) | (go_at_call 35; refine (cF _).mono ?_; rintro e w' ⟨rfl, rfl⟩) | (go_at_call 38; refine (Mask_any _ _).mono ?_; rintro e w' ⟨rfl, rfl⟩) | (go_at_call 75; refine (cP' _).mono ?_; rintro e w' ⟨rfl, n, rfl⟩) | (go_at_call 76; refine (cB2 _).mono ?_; rintro e w' ⟨rfl, rfl⟩))
      go_ret2
      exact ⟨ret_two (by simp [aplR, aplE, HE.out, HB.out]) (by simp [aplE, HE.out, HB.out]), _, rfl⟩
  · have hR : plR w.toNat op x y = 0 := by simp [plR, hE]
    rw [hR] at cP'
    have HE := Lib.hid hE
    have hE' : (plE w.toNat op x y == 0) = false := by simpa using hE
    clear hR cB' hE
    go_enter Try.func69, Try.ntmps69
    go_wp2_with (first | (go_at_call 57; refine (cW _).mono ?_; rintro e w' ⟨rfl, rfl⟩) | (go_at_call 35; refine (cF _).mono ?_; rintro e w' ⟨rfl, rfl⟩) | (go_at_call 38; refine (Mask_any _ _).mono ?_; rintro e w' ⟨rfl, rfl⟩) | (go_at_call 75; refine (cP' _).mono ?_; rintro e w' ⟨rfl, n, rfl⟩))
    go_ret2
    exact ⟨ret_two (by simp [aplR, aplE, HE.out]) (by simp [aplE, HE.out]), _, rfl⟩
/-- Called in whatever world, the function answers v and only draws. -/
def Gives (f : FuncId) (args : Array Value) (v : Value) : Prop :=
  ∀ W : World, Calls Try.prog f args W fun e w' => e = .returned v ∧ ∃ n, w' = W.drewN n
theorem Gives.go {f : FuncId} {args : Array Value} {v : Value} (h : Gives f args v) (W : World) : Calls Try.prog f args W fun e w' => e = .returned v ∧ ∃ n, w' = W.drewN n := h W
theorem Gives.as {f : FuncId} {args : Array Value} {v u : Value} (h : Gives f args v) (e : v = u) : Gives f args u := e ▸ h
theorem two_eq {k k' : IntKind} {a b c d : Int} (h : a = b) (h' : c = d) : Value.tuple #[.int k a, .int k' c] = .tuple #[.int k b, .int k' d] := by rw [h, h']
theorem one_eq {k : IntKind} {a b : Int} (h : a = b) : Value.int k a = .int k b := by rw [h]

/-- What Apply answers at a width. -/
def aplT (w op fl a b : Int) : Value :=
  .tuple #[.int .u64 (aplR w.toNat op fl (a % pw w.toNat) (b % pw w.toNat)), .int .i64 (aplE w.toNat op fl (a % pw w.toNat) (b % pw w.toNat))]

theorem Apply_1 (w fl a b : Int) (h1 : 1 ≤ w) (h2 : w ≤ 64) (ha : 0 ≤ a) (ha' : a ≤ 18446744073709551615) (hb : 0 ≤ b) (hb' : b ≤ 18446744073709551615) (hf : fl = 0 ∨ fl = 1 ∨ fl = 2 ∨ fl = 3) :
    Gives 69 #[.int .i64 1, .int .i64 w, .int .i64 fl, .int .u64 a, .int .u64 b] (aplT w 1 fl a b) := by
  intro W
  rcases hf with rfl | rfl | rfl | rfl
  · exact Apply_gen 1 0 3 w a b W h1 h2 ha ha' hb hb' (by decide) (by decide) (by decide) (by decide +kernel) (fun x y W' k1 k2 k3 k4 => plain_1 w x y W' h1 h2 k1 k2 k3 k4) (fun x y W' k1 k2 k3 k4 k5 => breaks_0 1 w x y W')
  · exact Apply_gen 1 1 3 w a b W h1 h2 ha ha' hb hb' (by decide) (by decide) (by decide) (by decide +kernel) (fun x y W' k1 k2 k3 k4 => plain_1 w x y W' h1 h2 k1 k2 k3 k4) (fun x y W' k1 k2 k3 k4 k5 => breaks_1 1 w x y W' (fun V => wrapsSigned_1 w x y V h1 h2 k1 k2 k3 k4))
  · exact Apply_gen 1 2 3 w a b W h1 h2 ha ha' hb hb' (by decide) (by decide) (by decide) (by decide +kernel) (fun x y W' k1 k2 k3 k4 => plain_1 w x y W' h1 h2 k1 k2 k3 k4) (fun x y W' k1 k2 k3 k4 k5 => breaks_2 1 w x y W' (fun V => wraps_1 w x y V h1 h2 k1 k2 k3 k4))
  · exact Apply_gen 1 3 3 w a b W h1 h2 ha ha' hb hb' (by decide) (by decide) (by decide) (by decide +kernel) (fun x y W' k1 k2 k3 k4 => plain_1 w x y W' h1 h2 k1 k2 k3 k4) (fun x y W' k1 k2 k3 k4 k5 => breaks_3 1 w x y W' (fun V => wraps_1 w x y V h1 h2 k1 k2 k3 k4) (fun V => wrapsSigned_1 w x y V h1 h2 k1 k2 k3 k4))
theorem Apply_2 (w fl a b : Int) (h1 : 1 ≤ w) (h2 : w ≤ 64) (ha : 0 ≤ a) (ha' : a ≤ 18446744073709551615) (hb : 0 ≤ b) (hb' : b ≤ 18446744073709551615) (hf : fl = 0 ∨ fl = 1 ∨ fl = 2 ∨ fl = 3) :
    Gives 69 #[.int .i64 2, .int .i64 w, .int .i64 fl, .int .u64 a, .int .u64 b] (aplT w 2 fl a b) := by
  intro W
  rcases hf with rfl | rfl | rfl | rfl
  · exact Apply_gen 2 0 3 w a b W h1 h2 ha ha' hb hb' (by decide) (by decide) (by decide) (by decide +kernel) (fun x y W' k1 k2 k3 k4 => plain_2 w x y W' h1 h2 k1 k2 k3 k4) (fun x y W' k1 k2 k3 k4 k5 => breaks_0 2 w x y W')
  · exact Apply_gen 2 1 3 w a b W h1 h2 ha ha' hb hb' (by decide) (by decide) (by decide) (by decide +kernel) (fun x y W' k1 k2 k3 k4 => plain_2 w x y W' h1 h2 k1 k2 k3 k4) (fun x y W' k1 k2 k3 k4 k5 => breaks_1 2 w x y W' (fun V => wrapsSigned_2 w x y V h1 h2 k1 k2 k3 k4))
  · exact Apply_gen 2 2 3 w a b W h1 h2 ha ha' hb hb' (by decide) (by decide) (by decide) (by decide +kernel) (fun x y W' k1 k2 k3 k4 => plain_2 w x y W' h1 h2 k1 k2 k3 k4) (fun x y W' k1 k2 k3 k4 k5 => breaks_2 2 w x y W' (fun V => wraps_2 w x y V h1 h2 k1 k2 k3 k4))
  · exact Apply_gen 2 3 3 w a b W h1 h2 ha ha' hb hb' (by decide) (by decide) (by decide) (by decide +kernel) (fun x y W' k1 k2 k3 k4 => plain_2 w x y W' h1 h2 k1 k2 k3 k4) (fun x y W' k1 k2 k3 k4 k5 => breaks_3 2 w x y W' (fun V => wraps_2 w x y V h1 h2 k1 k2 k3 k4) (fun V => wrapsSigned_2 w x y V h1 h2 k1 k2 k3 k4))
theorem Apply_3 (w fl a b : Int) (h1 : 1 ≤ w) (h2 : w ≤ 64) (ha : 0 ≤ a) (ha' : a ≤ 18446744073709551615) (hb : 0 ≤ b) (hb' : b ≤ 18446744073709551615) (hf : fl = 0 ∨ fl = 1 ∨ fl = 2 ∨ fl = 3) :
    Gives 69 #[.int .i64 3, .int .i64 w, .int .i64 fl, .int .u64 a, .int .u64 b] (aplT w 3 fl a b) := by
  intro W
  rcases hf with rfl | rfl | rfl | rfl
  · exact Apply_gen 3 0 3 w a b W h1 h2 ha ha' hb hb' (by decide) (by decide) (by decide) (by decide +kernel) (fun x y W' k1 k2 k3 k4 => plain_3 w x y W' h1 h2 k1 k2 k3 k4) (fun x y W' k1 k2 k3 k4 k5 => breaks_0 3 w x y W')
  · exact Apply_gen 3 1 3 w a b W h1 h2 ha ha' hb hb' (by decide) (by decide) (by decide) (by decide +kernel) (fun x y W' k1 k2 k3 k4 => plain_3 w x y W' h1 h2 k1 k2 k3 k4) (fun x y W' k1 k2 k3 k4 k5 => breaks_1 3 w x y W' (fun V => wrapsSigned_3 w x y V h1 h2 k1 k2 k3 k4))
  · exact Apply_gen 3 2 3 w a b W h1 h2 ha ha' hb hb' (by decide) (by decide) (by decide) (by decide +kernel) (fun x y W' k1 k2 k3 k4 => plain_3 w x y W' h1 h2 k1 k2 k3 k4) (fun x y W' k1 k2 k3 k4 k5 => breaks_2 3 w x y W' (fun V => wraps_3 w x y V h1 h2 k1 k2 k3 k4))
  · exact Apply_gen 3 3 3 w a b W h1 h2 ha ha' hb hb' (by decide) (by decide) (by decide) (by decide +kernel) (fun x y W' k1 k2 k3 k4 => plain_3 w x y W' h1 h2 k1 k2 k3 k4) (fun x y W' k1 k2 k3 k4 k5 => breaks_3 3 w x y W' (fun V => wraps_3 w x y V h1 h2 k1 k2 k3 k4) (fun V => wrapsSigned_3 w x y V h1 h2 k1 k2 k3 k4))
theorem Apply_4 (w fl a b : Int) (h1 : 1 ≤ w) (h2 : w ≤ 64) (ha : 0 ≤ a) (ha' : a ≤ 18446744073709551615) (hb : 0 ≤ b) (hb' : b ≤ 18446744073709551615) (hf : fl = 0 ∨ fl = 4) :
    Gives 69 #[.int .i64 4, .int .i64 w, .int .i64 fl, .int .u64 a, .int .u64 b] (aplT w 4 fl a b) := by
  intro W
  rcases hf with rfl | rfl
  · exact Apply_gen 4 0 4 w a b W h1 h2 ha ha' hb hb' (by decide) (by decide) (by decide) (by decide +kernel) (fun x y W' k1 k2 k3 k4 => plain_4 w x y W' h1 h2 k1 k2 k3 k4) (fun x y W' k1 k2 k3 k4 k5 => breaks_0 4 w x y W')
  · exact Apply_gen 4 4 4 w a b W h1 h2 ha ha' hb hb' (by decide) (by decide) (by decide) (by decide +kernel) (fun x y W' k1 k2 k3 k4 => plain_4 w x y W' h1 h2 k1 k2 k3 k4) (fun x y W' k1 k2 k3 k4 k5 => breaks_4 4 w x y W' (fun V => leavesRest_4 w x y V h1 h2 k1 k2 k3 k4 (plE_nz (by decide) k5)))
theorem Apply_5 (w fl a b : Int) (h1 : 1 ≤ w) (h2 : w ≤ 64) (ha : 0 ≤ a) (ha' : a ≤ 18446744073709551615) (hb : 0 ≤ b) (hb' : b ≤ 18446744073709551615) (hf : fl = 0 ∨ fl = 4) :
    Gives 69 #[.int .i64 5, .int .i64 w, .int .i64 fl, .int .u64 a, .int .u64 b] (aplT w 5 fl a b) := by
  intro W
  rcases hf with rfl | rfl
  · exact Apply_gen 5 0 4 w a b W h1 h2 ha ha' hb hb' (by decide) (by decide) (by decide) (by decide +kernel) (fun x y W' k1 k2 k3 k4 => plain_5 w x y W' h1 h2 k1 k2 k3 k4) (fun x y W' k1 k2 k3 k4 k5 => breaks_0 5 w x y W')
  · exact Apply_gen 5 4 4 w a b W h1 h2 ha ha' hb hb' (by decide) (by decide) (by decide) (by decide +kernel) (fun x y W' k1 k2 k3 k4 => plain_5 w x y W' h1 h2 k1 k2 k3 k4) (fun x y W' k1 k2 k3 k4 k5 => breaks_4 5 w x y W' (fun V => leavesRest_5 w x y V h1 h2 k1 k2 k3 k4 (plE_nz (by decide) k5)))
theorem Apply_6 (w fl a b : Int) (h1 : 1 ≤ w) (h2 : w ≤ 64) (ha : 0 ≤ a) (ha' : a ≤ 18446744073709551615) (hb : 0 ≤ b) (hb' : b ≤ 18446744073709551615) (hf : fl = 0) :
    Gives 69 #[.int .i64 6, .int .i64 w, .int .i64 fl, .int .u64 a, .int .u64 b] (aplT w 6 fl a b) := by
  intro W
  subst hf
  exact Apply_gen 6 0 0 w a b W h1 h2 ha ha' hb hb' (by decide) (by decide) (by decide) (by decide +kernel) (fun x y W' k1 k2 k3 k4 => plain_6 w x y W' h1 h2 k1 k2 k3 k4) (fun x y W' k1 k2 k3 k4 k5 => breaks_0 6 w x y W')
theorem Apply_7 (w fl a b : Int) (h1 : 1 ≤ w) (h2 : w ≤ 64) (ha : 0 ≤ a) (ha' : a ≤ 18446744073709551615) (hb : 0 ≤ b) (hb' : b ≤ 18446744073709551615) (hf : fl = 0) :
    Gives 69 #[.int .i64 7, .int .i64 w, .int .i64 fl, .int .u64 a, .int .u64 b] (aplT w 7 fl a b) := by
  intro W
  subst hf
  exact Apply_gen 7 0 0 w a b W h1 h2 ha ha' hb hb' (by decide) (by decide) (by decide) (by decide +kernel) (fun x y W' k1 k2 k3 k4 => plain_7 w x y W' h1 h2 k1 k2 k3 k4) (fun x y W' k1 k2 k3 k4 k5 => breaks_0 7 w x y W')
theorem Apply_8 (w fl a b : Int) (h1 : 1 ≤ w) (h2 : w ≤ 64) (ha : 0 ≤ a) (ha' : a ≤ 18446744073709551615) (hb : 0 ≤ b) (hb' : b ≤ 18446744073709551615) (hf : fl = 0) :
    Gives 69 #[.int .i64 8, .int .i64 w, .int .i64 fl, .int .u64 a, .int .u64 b] (aplT w 8 fl a b) := by
  intro W
  subst hf
  exact Apply_gen 8 0 0 w a b W h1 h2 ha ha' hb hb' (by decide) (by decide) (by decide) (by decide +kernel) (fun x y W' k1 k2 k3 k4 => plain_8 w x y W' h1 h2 k1 k2 k3 k4) (fun x y W' k1 k2 k3 k4 k5 => breaks_0 8 w x y W')
theorem Apply_9 (w fl a b : Int) (h1 : 1 ≤ w) (h2 : w ≤ 64) (ha : 0 ≤ a) (ha' : a ≤ 18446744073709551615) (hb : 0 ≤ b) (hb' : b ≤ 18446744073709551615) (hf : fl = 0) :
    Gives 69 #[.int .i64 9, .int .i64 w, .int .i64 fl, .int .u64 a, .int .u64 b] (aplT w 9 fl a b) := by
  intro W
  subst hf
  exact Apply_gen 9 0 0 w a b W h1 h2 ha ha' hb hb' (by decide) (by decide) (by decide) (by decide +kernel) (fun x y W' k1 k2 k3 k4 => plain_9 w x y W' h1 h2 k1 k2 k3 k4) (fun x y W' k1 k2 k3 k4 k5 => breaks_0 9 w x y W')
theorem Apply_10 (w fl a b : Int) (h1 : 1 ≤ w) (h2 : w ≤ 64) (ha : 0 ≤ a) (ha' : a ≤ 18446744073709551615) (hb : 0 ≤ b) (hb' : b ≤ 18446744073709551615) (hf : fl = 0) :
    Gives 69 #[.int .i64 10, .int .i64 w, .int .i64 fl, .int .u64 a, .int .u64 b] (aplT w 10 fl a b) := by
  intro W
  subst hf
  exact Apply_gen 10 0 0 w a b W h1 h2 ha ha' hb hb' (by decide) (by decide) (by decide) (by decide +kernel) (fun x y W' k1 k2 k3 k4 => plain_10 w x y W' h1 h2 k1 k2 k3 k4) (fun x y W' k1 k2 k3 k4 k5 => breaks_0 10 w x y W')
theorem Apply_11 (w fl a b : Int) (h1 : 1 ≤ w) (h2 : w ≤ 64) (ha : 0 ≤ a) (ha' : a ≤ 18446744073709551615) (hb : 0 ≤ b) (hb' : b ≤ 18446744073709551615) (hf : fl = 0 ∨ fl = 1 ∨ fl = 2 ∨ fl = 3) :
    Gives 69 #[.int .i64 11, .int .i64 w, .int .i64 fl, .int .u64 a, .int .u64 b] (aplT w 11 fl a b) := by
  intro W
  rcases hf with rfl | rfl | rfl | rfl
  · exact Apply_gen 11 0 3 w a b W h1 h2 ha ha' hb hb' (by decide) (by decide) (by decide) (by decide +kernel) (fun x y W' k1 k2 k3 k4 => plain_11 w x y W' h1 h2 k1 k2 k3 k4) (fun x y W' k1 k2 k3 k4 k5 => breaks_0 11 w x y W')
  · exact Apply_gen 11 1 3 w a b W h1 h2 ha ha' hb hb' (by decide) (by decide) (by decide) (by decide +kernel) (fun x y W' k1 k2 k3 k4 => plain_11 w x y W' h1 h2 k1 k2 k3 k4) (fun x y W' k1 k2 k3 k4 k5 => breaks_1 11 w x y W' (fun V => wrapsSigned_11 w x y V h1 h2 k1 k2 k3 k4 (plE_lt h1 (by decide) k5)))
  · exact Apply_gen 11 2 3 w a b W h1 h2 ha ha' hb hb' (by decide) (by decide) (by decide) (by decide +kernel) (fun x y W' k1 k2 k3 k4 => plain_11 w x y W' h1 h2 k1 k2 k3 k4) (fun x y W' k1 k2 k3 k4 k5 => breaks_2 11 w x y W' (fun V => wraps_11 w x y V h1 h2 k1 k2 k3 k4 (plE_lt h1 (by decide) k5)))
  · exact Apply_gen 11 3 3 w a b W h1 h2 ha ha' hb hb' (by decide) (by decide) (by decide) (by decide +kernel) (fun x y W' k1 k2 k3 k4 => plain_11 w x y W' h1 h2 k1 k2 k3 k4) (fun x y W' k1 k2 k3 k4 k5 => breaks_3 11 w x y W' (fun V => wraps_11 w x y V h1 h2 k1 k2 k3 k4 (plE_lt h1 (by decide) k5)) (fun V => wrapsSigned_11 w x y V h1 h2 k1 k2 k3 k4 (plE_lt h1 (by decide) k5)))
theorem Apply_12 (w fl a b : Int) (h1 : 1 ≤ w) (h2 : w ≤ 64) (ha : 0 ≤ a) (ha' : a ≤ 18446744073709551615) (hb : 0 ≤ b) (hb' : b ≤ 18446744073709551615) (hf : fl = 0 ∨ fl = 4) :
    Gives 69 #[.int .i64 12, .int .i64 w, .int .i64 fl, .int .u64 a, .int .u64 b] (aplT w 12 fl a b) := by
  intro W
  rcases hf with rfl | rfl
  · exact Apply_gen 12 0 4 w a b W h1 h2 ha ha' hb hb' (by decide) (by decide) (by decide) (by decide +kernel) (fun x y W' k1 k2 k3 k4 => plain_12 w x y W' h1 h2 k1 k2 k3 k4) (fun x y W' k1 k2 k3 k4 k5 => breaks_0 12 w x y W')
  · exact Apply_gen 12 4 4 w a b W h1 h2 ha ha' hb hb' (by decide) (by decide) (by decide) (by decide +kernel) (fun x y W' k1 k2 k3 k4 => plain_12 w x y W' h1 h2 k1 k2 k3 k4) (fun x y W' k1 k2 k3 k4 k5 => breaks_4 12 w x y W' (fun V => leavesRest_12 w x y V h1 h2 k1 k2 k3 k4 (plE_lt h1 (by decide) k5)))
theorem Apply_13 (w fl a b : Int) (h1 : 1 ≤ w) (h2 : w ≤ 64) (ha : 0 ≤ a) (ha' : a ≤ 18446744073709551615) (hb : 0 ≤ b) (hb' : b ≤ 18446744073709551615) (hf : fl = 0 ∨ fl = 4) :
    Gives 69 #[.int .i64 13, .int .i64 w, .int .i64 fl, .int .u64 a, .int .u64 b] (aplT w 13 fl a b) := by
  intro W
  rcases hf with rfl | rfl
  · exact Apply_gen 13 0 4 w a b W h1 h2 ha ha' hb hb' (by decide) (by decide) (by decide) (by decide +kernel) (fun x y W' k1 k2 k3 k4 => plain_13 w x y W' h1 h2 k1 k2 k3 k4) (fun x y W' k1 k2 k3 k4 k5 => breaks_0 13 w x y W')
  · exact Apply_gen 13 4 4 w a b W h1 h2 ha ha' hb hb' (by decide) (by decide) (by decide) (by decide +kernel) (fun x y W' k1 k2 k3 k4 => plain_13 w x y W' h1 h2 k1 k2 k3 k4) (fun x y W' k1 k2 k3 k4 k5 => breaks_4 13 w x y W' (fun V => leavesRest_13 w x y V h1 h2 k1 k2 k3 k4 (plE_lt h1 (by decide) k5)))
theorem Apply_14 (w fl a b : Int) (h1 : 1 ≤ w) (h2 : w ≤ 64) (ha : 0 ≤ a) (ha' : a ≤ 18446744073709551615) (hb : 0 ≤ b) (hb' : b ≤ 18446744073709551615) (hf : fl = 0) :
    Gives 69 #[.int .i64 14, .int .i64 w, .int .i64 fl, .int .u64 a, .int .u64 b] (aplT w 14 fl a b) := by
  intro W
  subst hf
  exact Apply_gen 14 0 0 w a b W h1 h2 ha ha' hb hb' (by decide) (by decide) (by decide) (by decide +kernel) (fun x y W' k1 k2 k3 k4 => plain_14 w x y W' h1 h2 k1 k2 k3 k4) (fun x y W' k1 k2 k3 k4 k5 => breaks_0 14 w x y W')
theorem Apply_15 (w fl a b : Int) (h1 : 1 ≤ w) (h2 : w ≤ 64) (ha : 0 ≤ a) (ha' : a ≤ 18446744073709551615) (hb : 0 ≤ b) (hb' : b ≤ 18446744073709551615) (hf : fl = 0) :
    Gives 69 #[.int .i64 15, .int .i64 w, .int .i64 fl, .int .u64 a, .int .u64 b] (aplT w 15 fl a b) := by
  intro W
  subst hf
  exact Apply_gen 15 0 0 w a b W h1 h2 ha ha' hb hb' (by decide) (by decide) (by decide) (by decide +kernel) (fun x y W' k1 k2 k3 k4 => plain_15 w x y W' h1 h2 k1 k2 k3 k4) (fun x y W' k1 k2 k3 k4 k5 => breaks_0 15 w x y W')
theorem Apply_16 (w fl a b : Int) (h1 : 1 ≤ w) (h2 : w ≤ 64) (ha : 0 ≤ a) (ha' : a ≤ 18446744073709551615) (hb : 0 ≤ b) (hb' : b ≤ 18446744073709551615) (hf : fl = 0) :
    Gives 69 #[.int .i64 16, .int .i64 w, .int .i64 fl, .int .u64 a, .int .u64 b] (aplT w 16 fl a b) := by
  intro W
  subst hf
  exact Apply_gen 16 0 0 w a b W h1 h2 ha ha' hb hb' (by decide) (by decide) (by decide) (by decide +kernel) (fun x y W' k1 k2 k3 k4 => plain_16 w x y W' h1 h2 k1 k2 k3 k4) (fun x y W' k1 k2 k3 k4 k5 => breaks_0 16 w x y W')
theorem Apply_17 (w fl a b : Int) (h1 : 1 ≤ w) (h2 : w ≤ 64) (ha : 0 ≤ a) (ha' : a ≤ 18446744073709551615) (hb : 0 ≤ b) (hb' : b ≤ 18446744073709551615) (hf : fl = 0) :
    Gives 69 #[.int .i64 17, .int .i64 w, .int .i64 fl, .int .u64 a, .int .u64 b] (aplT w 17 fl a b) := by
  intro W
  subst hf
  exact Apply_gen 17 0 0 w a b W h1 h2 ha ha' hb hb' (by decide) (by decide) (by decide) (by decide +kernel) (fun x y W' k1 k2 k3 k4 => plain_17 w x y W' h1 h2 k1 k2 k3 k4) (fun x y W' k1 k2 k3 k4 k5 => breaks_0 17 w x y W')
theorem Apply_18 (w fl a b : Int) (h1 : 1 ≤ w) (h2 : w ≤ 64) (ha : 0 ≤ a) (ha' : a ≤ 18446744073709551615) (hb : 0 ≤ b) (hb' : b ≤ 18446744073709551615) (hf : fl = 0) :
    Gives 69 #[.int .i64 18, .int .i64 w, .int .i64 fl, .int .u64 a, .int .u64 b] (aplT w 18 fl a b) := by
  intro W
  subst hf
  exact Apply_gen 18 0 0 w a b W h1 h2 ha ha' hb hb' (by decide) (by decide) (by decide) (by decide +kernel) (fun x y W' k1 k2 k3 k4 => plain_18 w x y W' h1 h2 k1 k2 k3 k4) (fun x y W' k1 k2 k3 k4 k5 => breaks_0 18 w x y W')
theorem Apply_19 (w fl a b : Int) (h1 : 1 ≤ w) (h2 : w ≤ 64) (ha : 0 ≤ a) (ha' : a ≤ 18446744073709551615) (hb : 0 ≤ b) (hb' : b ≤ 18446744073709551615) (hf : fl = 0) :
    Gives 69 #[.int .i64 19, .int .i64 w, .int .i64 fl, .int .u64 a, .int .u64 b] (aplT w 19 fl a b) := by
  intro W
  subst hf
  exact Apply_gen 19 0 0 w a b W h1 h2 ha ha' hb hb' (by decide) (by decide) (by decide) (by decide +kernel) (fun x y W' k1 k2 k3 k4 => plain_19 w x y W' h1 h2 k1 k2 k3 k4) (fun x y W' k1 k2 k3 k4 k5 => breaks_0 19 w x y W')
theorem ret_vb {k : IntKind} {a b : Int} {c d : Bool} (h : a = b) (h' : c = d) : Ending.returned (.tuple #[.int k a, .bool c]) = .returned (.tuple #[.int k b, .bool d]) := by rw [h, h']

theorem Convert_f (op f t : Int) (v : Int) (hv : 0 ≤ v) (hv' : v ≤ 18446744073709551615) (wd : World) (cf : ∀ W, Calls Try.prog 57 #[.int .i64 f] W fun e w' => e = .returned (.bool false) ∧ W = w') (ct : ∀ W, Calls Try.prog 57 #[.int .i64 t] W fun e w' => e = .returned (.bool true) ∧ W = w') :
    Calls Try.prog 56 #[.int .i64 op, .int .i64 f, .int .i64 t, .int .u64 v] wd fun e w' => e = .returned (.tuple #[.int .u64 (0), .bool false]) ∧ wd = w' := by
  go_enter Try.func56, Try.ntmps56
  go_wp2_with (first | (go_at_call 57; first | ((with_reducible refine (cf _).mono ?_); rintro e w' ⟨rfl, rfl⟩) | ((with_reducible refine (ct _).mono ?_); rintro e w' ⟨rfl, rfl⟩)) | (go_at_call 38; refine (Mask_any _ _).mono ?_; rintro e w' ⟨rfl, rfl⟩) | (go_at_call 63; refine (Signed_any _ _ _).mono ?_; rintro e w' ⟨rfl, rfl⟩))
  go_ret2
  exact ⟨ret_vb (rfl) (rfl), rfl⟩
theorem Convert_f2 (op f t : Int) (v : Int) (hv : 0 ≤ v) (hv' : v ≤ 18446744073709551615) (wd : World) (cf : ∀ W, Calls Try.prog 57 #[.int .i64 f] W fun e w' => e = .returned (.bool false) ∧ W = w') (ct : ∀ W, Calls Try.prog 57 #[.int .i64 t] W fun e w' => e = .returned (.bool false) ∧ W = w') :
    Calls Try.prog 56 #[.int .i64 op, .int .i64 f, .int .i64 t, .int .u64 v] wd fun e w' => e = .returned (.tuple #[.int .u64 (0), .bool false]) ∧ wd = w' := by
  go_enter Try.func56, Try.ntmps56
  go_wp2_with (first | (go_at_call 57; first | ((with_reducible refine (cf _).mono ?_); rintro e w' ⟨rfl, rfl⟩) | ((with_reducible refine (ct _).mono ?_); rintro e w' ⟨rfl, rfl⟩)) | (go_at_call 38; refine (Mask_any _ _).mono ?_; rintro e w' ⟨rfl, rfl⟩) | (go_at_call 63; refine (Signed_any _ _ _).mono ?_; rintro e w' ⟨rfl, rfl⟩))
  go_ret2
  exact ⟨ret_vb (rfl) (rfl), rfl⟩
theorem Convert_t (op f t : Int) (v : Int) (hv : 0 ≤ v) (hv' : v ≤ 18446744073709551615) (wd : World) (cf : ∀ W, Calls Try.prog 57 #[.int .i64 f] W fun e w' => e = .returned (.bool true) ∧ W = w') (ct : ∀ W, Calls Try.prog 57 #[.int .i64 t] W fun e w' => e = .returned (.bool false) ∧ W = w') :
    Calls Try.prog 56 #[.int .i64 op, .int .i64 f, .int .i64 t, .int .u64 v] wd fun e w' => e = .returned (.tuple #[.int .u64 (0), .bool false]) ∧ wd = w' := by
  go_enter Try.func56, Try.ntmps56
  go_wp2_with (first | (go_at_call 57; first | ((with_reducible refine (cf _).mono ?_); rintro e w' ⟨rfl, rfl⟩) | ((with_reducible refine (ct _).mono ?_); rintro e w' ⟨rfl, rfl⟩)) | (go_at_call 38; refine (Mask_any _ _).mono ?_; rintro e w' ⟨rfl, rfl⟩) | (go_at_call 63; refine (Signed_any _ _ _).mono ?_; rintro e w' ⟨rfl, rfl⟩))
  go_ret2
  exact ⟨ret_vb (rfl) (rfl), rfl⟩
theorem Convert_20 (f t : Int) (v : Int) (hv : 0 ≤ v) (hv' : v ≤ 18446744073709551615) (wd : World) (cf : ∀ W, Calls Try.prog 57 #[.int .i64 f] W fun e w' => e = .returned (.bool true) ∧ W = w') (ct : ∀ W, Calls Try.prog 57 #[.int .i64 t] W fun e w' => e = .returned (.bool true) ∧ W = w') (h : f < t) (h1 : 1 ≤ f) (h2 : f ≤ 64) :
    Calls Try.prog 56 #[.int .i64 20, .int .i64 f, .int .i64 t, .int .u64 v] wd fun e w' => e = .returned (.tuple #[.int .u64 (v % pw f.toNat), .bool true]) ∧ wd = w' := by
  go_enter Try.func56, Try.ntmps56
  go_wp2_with (first | (go_at_call 57; first | ((with_reducible refine (cf _).mono ?_); rintro e w' ⟨rfl, rfl⟩) | ((with_reducible refine (ct _).mono ?_); rintro e w' ⟨rfl, rfl⟩)) | (go_at_call 38; refine (Mask_any _ _).mono ?_; rintro e w' ⟨rfl, rfl⟩) | (go_at_call 63; refine (Signed_any _ _ _).mono ?_; rintro e w' ⟨rfl, rfl⟩))
  go_ret2
  exact ⟨ret_vb (and_msk f v h1 h2 hv (by omega)) (rfl), rfl⟩
theorem Convert_21 (f t : Int) (v : Int) (hv : 0 ≤ v) (hv' : v ≤ 18446744073709551615) (wd : World) (cf : ∀ W, Calls Try.prog 57 #[.int .i64 f] W fun e w' => e = .returned (.bool true) ∧ W = w') (ct : ∀ W, Calls Try.prog 57 #[.int .i64 t] W fun e w' => e = .returned (.bool true) ∧ W = w') (h : f < t) (h1 : 1 ≤ t) (h2 : t ≤ 64) :
    Calls Try.prog 56 #[.int .i64 21, .int .i64 f, .int .i64 t, .int .u64 v] wd fun e w' => e = .returned (.tuple #[.int .u64 (sgn f v % pw t.toNat), .bool true]) ∧ wd = w' := by
  go_enter Try.func56, Try.ntmps56
  go_wp2_with (first | (go_at_call 57; first | ((with_reducible refine (cf _).mono ?_); rintro e w' ⟨rfl, rfl⟩) | ((with_reducible refine (ct _).mono ?_); rintro e w' ⟨rfl, rfl⟩)) | (go_at_call 38; refine (Mask_any _ _).mono ?_; rintro e w' ⟨rfl, rfl⟩) | (go_at_call 63; refine (Signed_any _ _ _).mono ?_; rintro e w' ⟨rfl, rfl⟩))
  go_ret2
  exact ⟨ret_vb (and_msk_wrap t _ h1 h2) (rfl), rfl⟩
theorem Convert_22 (f t : Int) (v : Int) (hv : 0 ≤ v) (hv' : v ≤ 18446744073709551615) (wd : World) (cf : ∀ W, Calls Try.prog 57 #[.int .i64 f] W fun e w' => e = .returned (.bool true) ∧ W = w') (ct : ∀ W, Calls Try.prog 57 #[.int .i64 t] W fun e w' => e = .returned (.bool true) ∧ W = w') (h : t < f) (h1 : 1 ≤ t) (h2 : t ≤ 64) :
    Calls Try.prog 56 #[.int .i64 22, .int .i64 f, .int .i64 t, .int .u64 v] wd fun e w' => e = .returned (.tuple #[.int .u64 (v % pw t.toNat), .bool true]) ∧ wd = w' := by
  go_enter Try.func56, Try.ntmps56
  go_wp2_with (first | (go_at_call 57; first | ((with_reducible refine (cf _).mono ?_); rintro e w' ⟨rfl, rfl⟩) | ((with_reducible refine (ct _).mono ?_); rintro e w' ⟨rfl, rfl⟩)) | (go_at_call 38; refine (Mask_any _ _).mono ?_; rintro e w' ⟨rfl, rfl⟩) | (go_at_call 63; refine (Signed_any _ _ _).mono ?_; rintro e w' ⟨rfl, rfl⟩))
  go_ret2
  exact ⟨ret_vb (and_msk t v h1 h2 hv (by omega)) (rfl), rfl⟩
theorem Convert_20n (f t : Int) (v : Int) (hv : 0 ≤ v) (hv' : v ≤ 18446744073709551615) (wd : World) (cf : ∀ W, Calls Try.prog 57 #[.int .i64 f] W fun e w' => e = .returned (.bool true) ∧ W = w') (ct : ∀ W, Calls Try.prog 57 #[.int .i64 t] W fun e w' => e = .returned (.bool true) ∧ W = w') (h : ¬ f < t) :
    Calls Try.prog 56 #[.int .i64 20, .int .i64 f, .int .i64 t, .int .u64 v] wd fun e w' => e = .returned (.tuple #[.int .u64 (0), .bool false]) ∧ wd = w' := by
  go_enter Try.func56, Try.ntmps56
  go_wp2_with (first | (go_at_call 57; first | ((with_reducible refine (cf _).mono ?_); rintro e w' ⟨rfl, rfl⟩) | ((with_reducible refine (ct _).mono ?_); rintro e w' ⟨rfl, rfl⟩)) | (go_at_call 38; refine (Mask_any _ _).mono ?_; rintro e w' ⟨rfl, rfl⟩) | (go_at_call 63; refine (Signed_any _ _ _).mono ?_; rintro e w' ⟨rfl, rfl⟩))
  go_ret2
  exact ⟨ret_vb (rfl) (rfl), rfl⟩
theorem Convert_21n (f t : Int) (v : Int) (hv : 0 ≤ v) (hv' : v ≤ 18446744073709551615) (wd : World) (cf : ∀ W, Calls Try.prog 57 #[.int .i64 f] W fun e w' => e = .returned (.bool true) ∧ W = w') (ct : ∀ W, Calls Try.prog 57 #[.int .i64 t] W fun e w' => e = .returned (.bool true) ∧ W = w') (h : ¬ f < t) :
    Calls Try.prog 56 #[.int .i64 21, .int .i64 f, .int .i64 t, .int .u64 v] wd fun e w' => e = .returned (.tuple #[.int .u64 (0), .bool false]) ∧ wd = w' := by
  go_enter Try.func56, Try.ntmps56
  go_wp2_with (first | (go_at_call 57; first | ((with_reducible refine (cf _).mono ?_); rintro e w' ⟨rfl, rfl⟩) | ((with_reducible refine (ct _).mono ?_); rintro e w' ⟨rfl, rfl⟩)) | (go_at_call 38; refine (Mask_any _ _).mono ?_; rintro e w' ⟨rfl, rfl⟩) | (go_at_call 63; refine (Signed_any _ _ _).mono ?_; rintro e w' ⟨rfl, rfl⟩))
  go_ret2
  exact ⟨ret_vb (rfl) (rfl), rfl⟩
theorem Convert_22n (f t : Int) (v : Int) (hv : 0 ≤ v) (hv' : v ≤ 18446744073709551615) (wd : World) (cf : ∀ W, Calls Try.prog 57 #[.int .i64 f] W fun e w' => e = .returned (.bool true) ∧ W = w') (ct : ∀ W, Calls Try.prog 57 #[.int .i64 t] W fun e w' => e = .returned (.bool true) ∧ W = w') (h : ¬ t < f) :
    Calls Try.prog 56 #[.int .i64 22, .int .i64 f, .int .i64 t, .int .u64 v] wd fun e w' => e = .returned (.tuple #[.int .u64 (0), .bool false]) ∧ wd = w' := by
  go_enter Try.func56, Try.ntmps56
  go_wp2_with (first | (go_at_call 57; first | ((with_reducible refine (cf _).mono ?_); rintro e w' ⟨rfl, rfl⟩) | ((with_reducible refine (ct _).mono ?_); rintro e w' ⟨rfl, rfl⟩)) | (go_at_call 38; refine (Mask_any _ _).mono ?_; rintro e w' ⟨rfl, rfl⟩) | (go_at_call 63; refine (Signed_any _ _ _).mono ?_; rintro e w' ⟨rfl, rfl⟩))
  go_ret2
  exact ⟨ret_vb (rfl) (rfl), rfl⟩
theorem Convert_n (op f t : Int) (v : Int) (hv : 0 ≤ v) (hv' : v ≤ 18446744073709551615) (wd : World) (cf : ∀ W, Calls Try.prog 57 #[.int .i64 f] W fun e w' => e = .returned (.bool true) ∧ W = w') (ct : ∀ W, Calls Try.prog 57 #[.int .i64 t] W fun e w' => e = .returned (.bool true) ∧ W = w') (k1 : (op == 20) = false) (k2 : (op == 21) = false) (k3 : (op == 22) = false) :
    Calls Try.prog 56 #[.int .i64 op, .int .i64 f, .int .i64 t, .int .u64 v] wd fun e w' => e = .returned (.tuple #[.int .u64 (0), .bool false]) ∧ wd = w' := by
  go_enter Try.func56, Try.ntmps56
  go_wp2_with (first | (go_at_call 57; first | ((with_reducible refine (cf _).mono ?_); rintro e w' ⟨rfl, rfl⟩) | ((with_reducible refine (ct _).mono ?_); rintro e w' ⟨rfl, rfl⟩)) | (go_at_call 38; refine (Mask_any _ _).mono ?_; rintro e w' ⟨rfl, rfl⟩) | (go_at_call 63; refine (Signed_any _ _ _).mono ?_; rintro e w' ⟨rfl, rfl⟩))
  go_ret2
  exact ⟨ret_vb (rfl) (rfl), rfl⟩

theorem Convert_any (op f t : Int) (v : Int) (hv : 0 ≤ v) (hv' : v ≤ 18446744073709551615) (wd : World) :
    Calls Try.prog 56 #[.int .i64 op, .int .i64 f, .int .i64 t, .int .u64 v] wd fun e w' => e = .returned (.tuple #[.int .u64 (cvV op f t v), .bool (cvB op f t)]) ∧ wd = w' := by
  have cf := isWidth_any f
  have ct := isWidth_any t
  have none : cvB op f t = false → Calls Try.prog 56 #[.int .i64 op, .int .i64 f, .int .i64 t, .int .u64 v] wd (fun e w' => e = .returned (.tuple #[.int .u64 0, .bool false]) ∧ wd = w') →
      Calls Try.prog 56 #[.int .i64 op, .int .i64 f, .int .i64 t, .int .u64 v] wd (fun e w' => e = .returned (.tuple #[.int .u64 (cvV op f t v), .bool (cvB op f t)]) ∧ wd = w') := by
    intro hb hc
    rw [cvV, hb]
    exact hc
  have some : ∀ x, cvB op f t = true → cvV op f t v = x → Calls Try.prog 56 #[.int .i64 op, .int .i64 f, .int .i64 t, .int .u64 v] wd (fun e w' => e = .returned (.tuple #[.int .u64 x, .bool true]) ∧ wd = w') →
      Calls Try.prog 56 #[.int .i64 op, .int .i64 f, .int .i64 t, .int .u64 v] wd (fun e w' => e = .returned (.tuple #[.int .u64 (cvV op f t v), .bool (cvB op f t)]) ∧ wd = w') := by
    intro x hb hx hc
    rw [hx, hb]
    exact hc
  cases hf : isW f
  · rw [hf] at cf
    cases ht : isW t
    · rw [ht] at ct
      exact none (by simp [cvB, hf]) (Convert_f2 op f t v hv hv' wd cf ct)
    · rw [ht] at ct
      exact none (by simp [cvB, hf]) (Convert_f op f t v hv hv' wd cf ct)
  · rw [hf] at cf
    cases ht : isW t
    · rw [ht] at ct
      exact none (by simp [cvB, hf, ht]) (Convert_t op f t v hv hv' wd cf ct)
    · rw [ht] at ct
      obtain ⟨f1, f2⟩ := isW_iff.1 hf
      obtain ⟨t1, t2⟩ := isW_iff.1 ht
      by_cases k1 : op = 20
      · subst k1
        by_cases h : f < t
        · exact some _ (by simp [cvB, hf, ht, h]) (by simp [cvV, cvB, hf, ht, h]) (Convert_20 f t v hv hv' wd cf ct h f1 f2)
        · exact none (by simp [cvB, hf, ht]; omega) (Convert_20n f t v hv hv' wd cf ct h)
      · by_cases k2 : op = 21
        · subst k2
          by_cases h : f < t
          · exact some _ (by simp [cvB, hf, ht, h]) (by simp [cvV, cvB, hf, ht, h]) (Convert_21 f t v hv hv' wd cf ct h t1 t2)
          · exact none (by simp [cvB, hf, ht]; omega) (Convert_21n f t v hv hv' wd cf ct h)
        · by_cases k3 : op = 22
          · subst k3
            by_cases h : t < f
            · exact some _ (by simp [cvB, hf, ht, h]) (by simp [cvV, cvB, hf, ht, h]) (Convert_22 f t v hv hv' wd cf ct h t1 t2)
            · exact none (by simp [cvB, hf, ht]; omega) (Convert_22n f t v hv hv' wd cf ct h)
          · exact none (by simp [cvB, hf, ht, k1, k2, k3]) (Convert_n op f t v hv hv' wd cf ct (by simpa using k1) (by simpa using k2) (by simpa using k3))
end Go.Proofs.Ytpjfkmaceaikbaa
namespace Go.Proofs.Ytpjfkmaceaikbaa
open Go.RowKit Go.Maps
set_option linter.unusedVariables false
set_option linter.unusedSimpArgs false

theorem grown_drawn {a b : World} (h : Grown a b) (n : Nat) : Grown a (b.drewN n) := h
theorem mod_u64 (z : Int) {w : Int} (h1 : 1 ≤ w) (h2 : w ≤ 64) : 0 ≤ z % pw w.toNat ∧ z % pw w.toNat ≤ 18446744073709551615 := by
  have := pw_pos w.toNat
  have := pw_le64 (n := w.toNat) (by omega)
  have := Int.emod_nonneg z (show pw w.toNat ≠ 0 by omega)
  have := Int.emod_lt_of_pos z (show 0 < pw w.toNat by omega)
  omega
theorem below_drewNz {B : Nat} {a w : World} (h : Below B a w) (n : Nat) : Below B a (w.drewN n) := ⟨h.os, h.tape, h.output, h.size, h.block⟩
theorem grown_trans {a b c : World} (h : Grown a b) (k : Grown b c) : Grown a c :=
  ⟨World.keptBut_trans h.1 k.1, fun x => (k.2.1 x).trans (h.2.1 x), Nat.le_trans h.2.2 k.2.2⟩
/-- Behind a call: all that was there is as it was; at most new blocks, not frozen. -/
def Kept (W w' : World) : Prop := Below W.heap.size W w' ∧ Grown W w'
theorem Kept.refl (W : World) : Kept W W := ⟨Below.refl _ _, Grown.refl _⟩
theorem Kept.alloc {W w' : World} (h : Kept W w') (c : Array Value) (t : TypeId) : Kept W (w'.alloc (.cells c t)) := ⟨h.1.alloc h.1.size _, h.2.alloc _ _⟩
theorem Kept.drewN {W w' : World} (h : Kept W w') (n : Nat) : Kept W (w'.drewN n) := ⟨below_drewNz h.1 n, grown_drawn h.2 n⟩
theorem Kept.trans {a b c : World} (h : Kept a b) (k : Kept b c) : Kept a c := ⟨h.1.trans (k.1.mono h.1.size), grown_trans h.2 k.2⟩
theorem Kept.setCell {W w' : World} (h : Kept W w') {a : Addr} (ha : W.heap.size ≤ a.block) (v : Value) : Kept W (w'.setCell a v) := ⟨h.1.setCell ha v, h.2.setCell ha v⟩
/-- Called in whatever world, the function answers v; it may make memory, and turns none that was there. -/
def Makes (f : FuncId) (args : Array Value) (v : Value) : Prop :=
  ∀ W : World, Calls Try.prog f args W fun e w' => e = .returned v ∧ Kept W w'
theorem Makes.go {f : FuncId} {args : Array Value} {v : Value} (h : Makes f args v) (W : World) : Calls Try.prog f args W fun e w' => e = .returned v ∧ Kept W w' := h W
theorem Makes.as {f : FuncId} {args : Array Value} {v u : Value} (h : Makes f args v) (e : v = u) : Makes f args u := e ▸ h
theorem bcell {W w1 : World} (hb : Kept W w1) : (∀ b o, b < W.heap.size → w1.cell? ⟨b, o, none⟩ = W.cell? ⟨b, o, none⟩) ∧ (∀ b o, b < W.heap.size → w1.frozen? ⟨b, o, none⟩ = W.frozen? ⟨b, o, none⟩) :=
  ⟨fun b o h => hb.1.cell (p := ⟨b, o, none⟩) h, fun b o h => hb.1.frozen (p := ⟨b, o, none⟩) h⟩
theorem rwidth_any (w : Int) (wd : World) :
    Calls Try.prog 51 #[.int .i64 w] wd fun e w' => e = .returned (.bool (isW w)) ∧ wd = w' := by
  by_cases h1 : 1 ≤ w <;> by_cases h2 : w ≤ 64
  all_goals
    go_enter Try.func51, Try.ntmps51
    go_wp2
    go_ret
    exact ⟨ret_bool (by simp [isW, h1, h2]), rfl⟩
theorem Cut_any (w v : Int) (wd : World) (h1 : 1 ≤ w) (h2 : w ≤ 64) (hv : 0 ≤ v) (hv' : v ≤ 18446744073709551615) :
    Calls Try.prog 48 #[.int .i64 w, .int .u64 v] wd fun e w' => e = .returned (.int .u64 (v % pw w.toNat)) ∧ wd = w' := by
  by_cases h : w = 64
  · subst h
    go_enter Try.func48, Try.ntmps48
    go_wp2
    go_ret
    exact ⟨ret_int (by show v = v % pw 64; rw [pw_64]; omega), rfl⟩
  · have h3 : w < 64 := by omega
    have p1 := pw_pos w.toNat
    have p2 := pw_le63 (n := w.toNat) (by omega)
    have hP : IntKind.u64.wrap (2 ^ w.toNat) = pw w.toNat := by rw [u64w, pw_eq]; omega
    have p3 : ¬ pw w.toNat = 0 := by omega
    clear h
    go_enter Try.func48, Try.ntmps48
    go_wp2
    go_ret
    exact ⟨ret_int rfl, rfl⟩
theorem half_any (w : Int) (wd : World) (h1 : 1 ≤ w) (h2 : w ≤ 64) :
    Calls Try.prog 68 #[.int .i64 w] wd fun e w' => e = .returned (.int .u64 (pw (w.toNat - 1))) ∧ wd = w' := by
  have p1 := pw_pos (w.toNat - 1)
  have p2 := pw_le63 (n := w.toNat - 1) (by omega)
  have hP : IntKind.u64.wrap (2 ^ (w.toNat - 1)) = pw (w.toNat - 1) := by rw [u64w, pw_eq]; omega
  go_enter Try.func68, Try.ntmps68
  go_wp2
  go_ret
  exact ⟨ret_int rfl, rfl⟩
/-- A whole number as the document's answers hold one: its size in two words, and whether it is below 0. -/
def big (hi lo : Int) (below : Bool) : Value := .agg #[.int .u64 hi, .int .u64 lo, .bool below]
theorem build_lo (w : World) (lo : Int) : (Instr.build 68 #[(1, .int .u64 lo)]).run Try.prog w = .ok (.agg #[.int .u64 0, .int .u64 lo, .bool false]) w := run_build _ _ _ _ (by kernel_rfl)
theorem build_lb (w : World) (lo : Int) (b : Bool) : (Instr.build 68 #[(1, .int .u64 lo), (2, .bool b)]).run Try.prog w = .ok (.agg #[.int .u64 0, .int .u64 lo, .bool b]) w := run_build _ _ _ _ (by kernel_rfl)
theorem build_hlb (w : World) (hi lo : Int) (b : Bool) : (Instr.build 68 #[(0, .int .u64 hi), (1, .int .u64 lo), (2, .bool b)]).run Try.prog w = .ok (.agg #[.int .u64 hi, .int .u64 lo, .bool b]) w := run_build _ _ _ _ (by kernel_rfl)
theorem With_any (w v : Int) (h1 : 1 ≤ w) (h2 : w ≤ 64) (hv : 0 ≤ v) (hv' : v ≤ 18446744073709551615) :
    Makes 53 #[.int .i64 w, .int .u64 v] (big 0 (mag (sgn w v)) (decide (sgn w v < 0))) := by
  intro W
  have c1 := fun W => Cut_any w v W h1 h2 hv hv'
  have c2 := fun W => half_any w W h1 h2
  have k1 := Int.emod_nonneg v (show pw w.toNat ≠ 0 by have := pw_pos w.toNat; omega)
  have k2 := Int.emod_lt_of_pos v (pw_pos w.toNat)
  have hl := pw_le64 (n := w.toNat) (by omega)
  have hh := pw_half (n := w.toNat) (by omega)
  have hs := sgn_in v h1 h2
  generalize sgn w v = s at *
  generalize v % pw w.toNat = x at *
  by_cases hx : x < pw (w.toNat - 1)
  · have e1 : s = x := by rw [hs, sg, if_pos hx]
    have e2 : big 0 x false = big 0 (mag s) (decide (s < 0)) := by
      have : ¬ s < 0 := by omega
      rw [mag, if_neg this, e1]; simp [big]; omega
    rw [← e2]
    clear e1 e2 hs hh
    have hb := build_lb
    go_enter Try.func53, Try.ntmps53
    go_wp2_with (first | ((with_reducible refine (c1 _).mono ?_); rintro e w' ⟨rfl, rfl⟩) | ((with_reducible refine (c2 _).mono ?_); rintro e w' ⟨rfl, rfl⟩))
    exact bodyPost_ret (v := big 0 x false) (by simp [results, Try.results53, go_sem, big]) rfl ⟨rfl, (Kept.refl _).alloc _ _⟩
  · have e1 : s = x - pw w.toNat := by rw [hs, sg, if_neg hx]
    have e3 : IntKind.u64.wrap (-x) % pw w.toNat = mag s := by
      rw [u64w, Int.emod_emod_of_dvd _ ⟨_, (pw_dvd64 (n := w.toNat) (by omega)).symm⟩, mag, if_pos (by omega), e1, ← Int.add_emod_right, Int.emod_eq_of_lt (by omega) (by omega)]; omega
    have e4 : decide (s < 0) = true := by simp; omega
    have c3 := fun W => Cut_any w (IntKind.u64.wrap (-x)) W h1 h2 (by rw [u64w]; omega) (by rw [u64w]; omega)
    rw [e3] at c3
    rw [e4]
    generalize mag s = y at *
    clear e1 e3 e4 hs hh
    have hb := build_lb
    go_enter Try.func53, Try.ntmps53
    go_wp2_with (first | ((with_reducible refine (c1 _).mono ?_); rintro e w' ⟨rfl, rfl⟩) | ((with_reducible refine (c2 _).mono ?_); rintro e w' ⟨rfl, rfl⟩) | ((with_reducible refine (c3 _).mono ?_); rintro e w' ⟨rfl, rfl⟩))
    exact bodyPost_ret (v := big 0 y true) (by simp [results, Try.results53, go_sem, big]) rfl ⟨rfl, (Kept.refl _).alloc _ _⟩
theorem Wrapped_any (w hi lo : Int) (b : Bool) (h1 : 1 ≤ w) (h2 : w ≤ 64) (hv : 0 ≤ lo) (hv' : lo ≤ 18446744073709551615) :
    Makes 52 #[.int .i64 w, big hi lo b] (.int .u64 ((if b then -lo else lo) % pw w.toNat)) := by
  intro W
  unfold big
  cases b
  · have c1 := fun W => Cut_any w lo W h1 h2 hv hv'
    simp only [Bool.false_eq_true, if_false]
    go_enter Try.func52, Try.ntmps52
    go_wp2_with ((with_reducible refine (c1 _).mono ?_); rintro e w' ⟨rfl, rfl⟩)
    go_ret
    exact ⟨rfl, (Kept.refl _).alloc _ _⟩
  · have c1 := fun W => Cut_any w (IntKind.u64.wrap (-lo)) W h1 h2 (by rw [u64w]; omega) (by rw [u64w]; omega)
    have e3 : IntKind.u64.wrap (-lo) % pw w.toNat = -lo % pw w.toNat := by
      rw [u64w, Int.emod_emod_of_dvd _ ⟨_, (pw_dvd64 (n := w.toNat) (by omega)).symm⟩]
    rw [e3] at c1
    clear e3
    simp only [if_true]
    go_enter Try.func52, Try.ntmps52
    go_wp2_with ((with_reducible refine (c1 _).mono ?_); rintro e w' ⟨rfl, rfl⟩)
    go_ret
    exact ⟨rfl, (Kept.refl _).alloc _ _⟩
theorem Plain_any (w v : Int) (h1 : 1 ≤ w) (h2 : w ≤ 64) (hv : 0 ≤ v) (hv' : v ≤ 18446744073709551615) :
    Makes 79 #[.int .i64 w, .int .u64 v] (big 0 (v % pw w.toNat) false) := by
  intro W
  have c1 := fun W => Cut_any w v W h1 h2 hv hv'
  have hb := build_lo
  go_enter Try.func79, Try.ntmps79
  go_wp2_with ((with_reducible refine (c1 _).mono ?_); rintro e w' ⟨rfl, rfl⟩)
  exact bodyPost_ret (v := big 0 (v % pw w.toNat) false) (by simp [results, Try.results79, go_sem, big]) rfl ⟨rfl, (Kept.refl _).alloc _ _⟩
theorem rMask_any (w : Int) (wd : World) :
    Calls Try.prog 49 #[.int .i64 w] wd fun e w' => e = .returned (.int .u64 (msk w)) ∧ wd = w' := by
  have cw := rwidth_any w
  cases hw : isW w
  · rw [hw] at cw
    have hm : Hid (0 = msk w) := by show _ = _; rw [msk, hw]; rfl
    clear hw
    go_enter Try.func49, Try.ntmps49
    go_wp2_with ((with_reducible refine (cw _).mono ?_); rintro e w' ⟨rfl, rfl⟩)
    go_ret
    exact ⟨ret_int hm.out, rfl⟩
  · rw [hw] at cw
    obtain ⟨h1, h2⟩ := isW_iff.1 hw
    have c1 := fun W => Cut_any w 18446744073709551615 W h1 h2 (by decide) (by decide)
    have hm : 18446744073709551615 % pw w.toNat = msk w := by
      have h := pw_dvd64 (n := w.toNat) (by omega)
      have hq := pw_pos w.toNat
      rw [msk_in h1 h2]
      generalize pw w.toNat = N at *
      generalize pw (64 - w.toNat) = K at *
      have e : (18446744073709551615 : Int) = (N - 1) + N * (K - 1) := by rw [Int.mul_sub, h]; omega
      rw [e, Int.add_mul_emod_self_left, Int.emod_eq_of_lt (by omega) (by omega)]
    rw [hm] at c1
    clear hm hw
    go_enter Try.func49, Try.ntmps49
    go_wp2_with (first | ((with_reducible refine (cw _).mono ?_); rintro e w' ⟨rfl, rfl⟩) | ((with_reducible refine (c1 _).mono ?_); rintro e w' ⟨rfl, rfl⟩))
    go_ret
    exact ⟨ret_int rfl, rfl⟩
theorem rConvert_n (op f t v : Int) (W : World) (hf : ∀ W, Calls Try.prog 51 #[.int .i64 f] W fun e w' => e = .returned (.bool true) ∧ W = w')
    (ht : ∀ W, Calls Try.prog 51 #[.int .i64 t] W fun e w' => e = .returned (.bool true) ∧ W = w')
    (k1 : (op == 20) = false) (k2 : (op == 21) = false) (k3 : (op == 22) = false) :
    Calls Try.prog 32 #[.int .i64 op, .int .i64 f, .int .i64 t, .int .u64 v] W fun e w' => e = .returned (.tuple #[.int .u64 0, .bool false]) ∧ Kept W w' := by
  go_enter Try.func32, Try.ntmps32
  go_wp2_with (first | ((with_reducible refine (hf _).mono ?_); rintro e w' ⟨rfl, rfl⟩) | ((with_reducible refine (ht _).mono ?_); rintro e w' ⟨rfl, rfl⟩))
  go_ret2
  exact ⟨ret_vb rfl rfl, Kept.refl _⟩
theorem rConvert_no (op f t v : Int) (W : World) (bf bt : Bool) (hf : ∀ W, Calls Try.prog 51 #[.int .i64 f] W fun e w' => e = .returned (.bool bf) ∧ W = w')
    (ht : ∀ W, Calls Try.prog 51 #[.int .i64 t] W fun e w' => e = .returned (.bool bt) ∧ W = w') (hb : bf = false ∨ bf = true ∧ bt = false) :
    Calls Try.prog 32 #[.int .i64 op, .int .i64 f, .int .i64 t, .int .u64 v] W fun e w' => e = .returned (.tuple #[.int .u64 0, .bool false]) ∧ Kept W w' := by
  rcases hb with rfl | ⟨rfl, rfl⟩
  all_goals
    go_enter Try.func32, Try.ntmps32
    go_wp2_with (first | ((with_reducible refine (hf _).mono ?_); rintro e w' ⟨rfl, rfl⟩) | ((with_reducible refine (ht _).mono ?_); rintro e w' ⟨rfl, rfl⟩))
    go_ret2
    exact ⟨ret_vb rfl rfl, Kept.refl _⟩
theorem rConvert_20n (f t v : Int) (W : World) (hv : 0 ≤ v) (hv' : v ≤ 18446744073709551615) (hf : ∀ W, Calls Try.prog 51 #[.int .i64 f] W fun e w' => e = .returned (.bool true) ∧ W = w')
    (ht : ∀ W, Calls Try.prog 51 #[.int .i64 t] W fun e w' => e = .returned (.bool true) ∧ W = w') (h : ¬ f < t) :
    Calls Try.prog 32 #[.int .i64 20, .int .i64 f, .int .i64 t, .int .u64 v] W fun e w' => e = .returned (.tuple #[.int .u64 (0), .bool false]) ∧ Kept W w' := by
  go_enter Try.func32, Try.ntmps32
  go_wp2_with (first | ((with_reducible refine (hf _).mono ?_); rintro e w' ⟨rfl, rfl⟩) | ((with_reducible refine (ht _).mono ?_); rintro e w' ⟨rfl, rfl⟩))
  go_ret2
  exact ⟨ret_vb rfl rfl, Kept.refl _⟩
theorem rConvert_21n (f t v : Int) (W : World) (hv : 0 ≤ v) (hv' : v ≤ 18446744073709551615) (hf : ∀ W, Calls Try.prog 51 #[.int .i64 f] W fun e w' => e = .returned (.bool true) ∧ W = w')
    (ht : ∀ W, Calls Try.prog 51 #[.int .i64 t] W fun e w' => e = .returned (.bool true) ∧ W = w') (h : ¬ f < t) :
    Calls Try.prog 32 #[.int .i64 21, .int .i64 f, .int .i64 t, .int .u64 v] W fun e w' => e = .returned (.tuple #[.int .u64 (0), .bool false]) ∧ Kept W w' := by
  go_enter Try.func32, Try.ntmps32
  go_wp2_with (first | ((with_reducible refine (hf _).mono ?_); rintro e w' ⟨rfl, rfl⟩) | ((with_reducible refine (ht _).mono ?_); rintro e w' ⟨rfl, rfl⟩))
  go_ret2
  exact ⟨ret_vb rfl rfl, Kept.refl _⟩
theorem rConvert_22n (f t v : Int) (W : World) (hv : 0 ≤ v) (hv' : v ≤ 18446744073709551615) (hf : ∀ W, Calls Try.prog 51 #[.int .i64 f] W fun e w' => e = .returned (.bool true) ∧ W = w')
    (ht : ∀ W, Calls Try.prog 51 #[.int .i64 t] W fun e w' => e = .returned (.bool true) ∧ W = w') (h : ¬ t < f) :
    Calls Try.prog 32 #[.int .i64 22, .int .i64 f, .int .i64 t, .int .u64 v] W fun e w' => e = .returned (.tuple #[.int .u64 (0), .bool false]) ∧ Kept W w' := by
  go_enter Try.func32, Try.ntmps32
  go_wp2_with (first | ((with_reducible refine (hf _).mono ?_); rintro e w' ⟨rfl, rfl⟩) | ((with_reducible refine (ht _).mono ?_); rintro e w' ⟨rfl, rfl⟩))
  go_ret2
  exact ⟨ret_vb rfl rfl, Kept.refl _⟩
theorem rConvert_20 (f t v : Int) (W : World) (hv : 0 ≤ v) (hv' : v ≤ 18446744073709551615) (hf : ∀ W, Calls Try.prog 51 #[.int .i64 f] W fun e w' => e = .returned (.bool true) ∧ W = w')
    (ht : ∀ W, Calls Try.prog 51 #[.int .i64 t] W fun e w' => e = .returned (.bool true) ∧ W = w') (h : f < t) (h1 : 1 ≤ f) (h2 : f ≤ 64) :
    Calls Try.prog 32 #[.int .i64 20, .int .i64 f, .int .i64 t, .int .u64 v] W fun e w' => e = .returned (.tuple #[.int .u64 (v % pw f.toNat), .bool true]) ∧ Kept W w' := by
  have c1 := fun W => Cut_any f v W h1 h2 hv hv'
  go_enter Try.func32, Try.ntmps32
  go_wp2_with (first | ((with_reducible refine (hf _).mono ?_); rintro e w' ⟨rfl, rfl⟩) | ((with_reducible refine (ht _).mono ?_); rintro e w' ⟨rfl, rfl⟩) | ((with_reducible refine (c1 _).mono ?_); rintro e w' ⟨rfl, rfl⟩))
  go_ret2
  exact ⟨ret_vb rfl rfl, Kept.refl _⟩
theorem rConvert_22 (f t v : Int) (W : World) (hv : 0 ≤ v) (hv' : v ≤ 18446744073709551615) (hf : ∀ W, Calls Try.prog 51 #[.int .i64 f] W fun e w' => e = .returned (.bool true) ∧ W = w')
    (ht : ∀ W, Calls Try.prog 51 #[.int .i64 t] W fun e w' => e = .returned (.bool true) ∧ W = w') (h : t < f) (h1 : 1 ≤ t) (h2 : t ≤ 64) :
    Calls Try.prog 32 #[.int .i64 22, .int .i64 f, .int .i64 t, .int .u64 v] W fun e w' => e = .returned (.tuple #[.int .u64 (v % pw t.toNat), .bool true]) ∧ Kept W w' := by
  have c1 := fun W => Cut_any t v W h1 h2 hv hv'
  go_enter Try.func32, Try.ntmps32
  go_wp2_with (first | ((with_reducible refine (hf _).mono ?_); rintro e w' ⟨rfl, rfl⟩) | ((with_reducible refine (ht _).mono ?_); rintro e w' ⟨rfl, rfl⟩) | ((with_reducible refine (c1 _).mono ?_); rintro e w' ⟨rfl, rfl⟩))
  go_ret2
  exact ⟨ret_vb rfl rfl, Kept.refl _⟩
theorem rConvert_21 (f t v : Int) (W : World) (hv : 0 ≤ v) (hv' : v ≤ 18446744073709551615) (hf : ∀ W, Calls Try.prog 51 #[.int .i64 f] W fun e w' => e = .returned (.bool true) ∧ W = w')
    (ht : ∀ W, Calls Try.prog 51 #[.int .i64 t] W fun e w' => e = .returned (.bool true) ∧ W = w') (h : f < t) (h1 : 1 ≤ f) (h2 : t ≤ 64) :
    Calls Try.prog 32 #[.int .i64 21, .int .i64 f, .int .i64 t, .int .u64 v] W fun e w' => e = .returned (.tuple #[.int .u64 (sgn f v % pw t.toNat), .bool true]) ∧ Kept W w' := by
  have c1 := With_any f v h1 (by omega) hv hv'
  have hb := sgn_bd f v
  have c2 := (Wrapped_any t 0 (mag (sgn f v)) (decide (sgn f v < 0)) (by omega) h2 (by unfold mag; split <;> omega) (by unfold mag; split <;> omega)).as (u := .int .u64 (sgn f v % pw t.toNat)) (one_eq (by
    congr 1; unfold mag; by_cases h : sgn f v < 0
    · rw [if_pos h]; simp [h]
    · rw [if_neg h]; simp; omega))
  unfold big at c1 c2
  generalize mag (sgn f v) = y at *
  generalize decide (sgn f v < 0) = z at *
  go_enter Try.func32, Try.ntmps32
  go_wp2_with (first | ((with_reducible refine (hf _).mono ?_); rintro e w' ⟨rfl, rfl⟩) | ((with_reducible refine (ht _).mono ?_); rintro e w' ⟨rfl, rfl⟩) | ((with_reducible refine (c1.go _).mono ?_); rintro e w1 ⟨rfl, hb1⟩) | ((with_reducible refine (c2.go _).mono ?_); rintro e w2 ⟨rfl, hb2⟩))
  go_ret2
  exact ⟨ret_vb rfl rfl, hb1.trans hb2⟩
theorem rConvert_any (op f t v : Int) (hv : 0 ≤ v) (hv' : v ≤ 18446744073709551615) :
    Makes 32 #[.int .i64 op, .int .i64 f, .int .i64 t, .int .u64 v] (.tuple #[.int .u64 (cvV op f t v), .bool (cvB op f t)]) := by
  intro W
  have cf := rwidth_any f
  have ct := rwidth_any t
  have none : cvB op f t = false → Calls Try.prog 32 #[.int .i64 op, .int .i64 f, .int .i64 t, .int .u64 v] W (fun e w' => e = .returned (.tuple #[.int .u64 0, .bool false]) ∧ Kept W w') →
      Calls Try.prog 32 #[.int .i64 op, .int .i64 f, .int .i64 t, .int .u64 v] W (fun e w' => e = .returned (.tuple #[.int .u64 (cvV op f t v), .bool (cvB op f t)]) ∧ Kept W w') := by
    intro hb hc
    rw [cvV, hb]
    exact hc
  have some : ∀ x, cvB op f t = true → cvV op f t v = x → Calls Try.prog 32 #[.int .i64 op, .int .i64 f, .int .i64 t, .int .u64 v] W (fun e w' => e = .returned (.tuple #[.int .u64 x, .bool true]) ∧ Kept W w') →
      Calls Try.prog 32 #[.int .i64 op, .int .i64 f, .int .i64 t, .int .u64 v] W (fun e w' => e = .returned (.tuple #[.int .u64 (cvV op f t v), .bool (cvB op f t)]) ∧ Kept W w') := by
    intro x hb hx hc
    rw [hx, hb]
    exact hc
  cases hf : isW f
  · rw [hf] at cf
    exact none (by simp [cvB, hf]) (rConvert_no op f t v W false _ cf ct (.inl rfl))
  · rw [hf] at cf
    cases ht : isW t
    · rw [ht] at ct
      exact none (by simp [cvB, hf, ht]) (rConvert_no op f t v W true false cf ct (.inr ⟨rfl, rfl⟩))
    · rw [ht] at ct
      obtain ⟨f1, f2⟩ := isW_iff.1 hf
      obtain ⟨t1, t2⟩ := isW_iff.1 ht
      by_cases k1 : op = 20
      · subst k1
        by_cases h : f < t
        · exact some _ (by simp [cvB, hf, ht, h]) (by simp [cvV, cvB, hf, ht, h]) (rConvert_20 f t v W hv hv' cf ct h f1 f2)
        · exact none (by simp [cvB, hf, ht]; omega) (rConvert_20n f t v W hv hv' cf ct h)
      · by_cases k2 : op = 21
        · subst k2
          by_cases h : f < t
          · exact some _ (by simp [cvB, hf, ht, h]) (by simp [cvV, cvB, hf, ht, h]) (rConvert_21 f t v W hv hv' cf ct h f1 t2)
          · exact none (by simp [cvB, hf, ht]; omega) (rConvert_21n f t v W hv hv' cf ct h)
        · by_cases k3 : op = 22
          · subst k3
            by_cases h : t < f
            · exact some _ (by simp [cvB, hf, ht, h]) (by simp [cvV, cvB, hf, ht, h]) (rConvert_22 f t v W hv hv' cf ct h t1 t2)
            · exact none (by simp [cvB, hf, ht]; omega) (rConvert_22n f t v W hv hv' cf ct h)
          · exact none (by simp [cvB, hf, ht, k1, k2, k3]) (rConvert_n op f t v W cf ct (by simpa using k1) (by simpa using k2) (by simpa using k3))
end Go.Proofs.Ytpjfkmaceaikbaa
namespace Go.Proofs.Ytpjfkmaceaikbaa
open Go.RowKit
set_option linter.unusedVariables false
set_option linter.unusedSimpArgs false

theorem less_any (a b c d : Int) (p q : Bool) (W : World) :
    Calls Try.prog 94 #[.agg #[.int .u64 a, .int .u64 b, .bool p], .agg #[.int .u64 c, .int .u64 d, .bool q]] W fun e w' =>
      e = .returned (.bool (decide (a < c ∨ (a = c ∧ b < d)))) ∧ (W.alloc (.cells #[.int .u64 a, .int .u64 b, .bool p] 68)).alloc (.cells #[.int .u64 c, .int .u64 d, .bool q] 68) = w' := by
  by_cases h1 : a < c
  · go_enter Try.func94, Try.ntmps94
    go_wp2
    go_ret
    exact ⟨ret_bool (by simp [h1]), rfl⟩
  · by_cases h2 : a = c
    · subst h2
      clear h1
      by_cases h3 : b < d
      all_goals
        go_enter Try.func94, Try.ntmps94
        go_wp2
        go_ret
        exact ⟨ret_bool (by simp [h3]), rfl⟩
    · have h3 : (a == c) = false := by simpa using h2
      have H : Hid ((decide (a < c) || decide (a = c) && decide (b < d)) = false) := by show _ = _; simp; omega
      clear h2
      go_enter Try.func94, Try.ntmps94
      go_wp2
      go_ret
      exact ⟨ret_bool H.out.symm, rfl⟩

theorem fixed_any (hi lo : Int) (b : Bool) (W : World) :
    Calls Try.prog 93 #[.agg #[.int .u64 hi, .int .u64 lo, .bool b]] W fun e w' =>
      e = .returned (.agg #[.int .u64 hi, .int .u64 lo, .bool (b && !(hi == 0 && lo == 0))]) ∧ Kept W w' := by
  by_cases h1 : hi = 0
  · by_cases h2 : lo = 0
    · subst h1; subst h2
      go_enter Try.func93, Try.ntmps93
      go_wp2
      exact bodyPost_ret (v := .agg #[.int .u64 0, .int .u64 0, .bool false]) (by simp [results, Try.results93, go_sem]) rfl ⟨by simp, ((Kept.refl _).alloc _ _).alloc _ _⟩
    · subst h1
      have h3 : (lo == 0) = false := by simpa using h2
      have H := Lib.hid h3
      clear h2
      go_enter Try.func93, Try.ntmps93
      go_wp2
      exact bodyPost_ret (v := .agg #[.int .u64 0, .int .u64 lo, .bool b]) (by simp [results, Try.results93, go_sem]) rfl ⟨by rw [H.out]; simp, ((Kept.refl _).alloc _ _).alloc _ _⟩
  · have h3 : (hi == 0) = false := by simpa using h1
    have H := Lib.hid h3
    clear h1
    go_enter Try.func93, Try.ntmps93
    go_wp2
    exact bodyPost_ret (v := .agg #[.int .u64 hi, .int .u64 lo, .bool b]) (by simp [results, Try.results93, go_sem]) rfl ⟨by rw [H.out]; simp, ((Kept.refl _).alloc _ _).alloc _ _⟩

theorem Minus_any (hi lo : Int) (b : Bool) (W : World) :
    Calls Try.prog 84 #[.agg #[.int .u64 hi, .int .u64 lo, .bool b]] W fun e w' =>
      e = .returned (.agg #[.int .u64 hi, .int .u64 lo, .bool (!b && !(hi == 0 && lo == 0))]) ∧ Kept W w' := by
  have c1 := fun W => fixed_any hi lo (!b) W
  generalize (!b && !(hi == 0 && lo == 0)) = z at *
  go_enter Try.func84, Try.ntmps84
  go_wp2_with ((with_reducible refine (c1 _).mono ?_); rintro e w1 ⟨rfl, hb1⟩; obtain ⟨hc, hf⟩ := bcell hb1)
  exact bodyPost_ret (v := .agg #[.int .u64 hi, .int .u64 lo, .bool z]) (by simp [results, Try.results84, go_sem, hc, hf]) rfl
    ⟨rfl, ((((((Kept.refl W).alloc _ _).alloc _ _).trans hb1).setCell (by simp) _).setCell (by simp) _).setCell (by simp) _⟩

theorem Plus_same (a b c d : Int) (p : Bool) (W : World) (ha : 0 ≤ a) (hb : 0 ≤ b) (hc : 0 ≤ c) (hd : 0 ≤ d) (hb' : b ≤ 18446744073709551615) (hd' : d ≤ 18446744073709551615)
    (h : a * 18446744073709551616 + b + (c * 18446744073709551616 + d) < 340282366920938463463374607431768211456) :
    Calls Try.prog 83 #[.agg #[.int .u64 a, .int .u64 b, .bool p], .agg #[.int .u64 c, .int .u64 d, .bool p]] W fun e w' =>
      e = .returned (.agg #[.int .u64 (if b + d ≤ 18446744073709551615 then a + c else a + c + 1), .int .u64 (if b + d ≤ 18446744073709551615 then b + d else b + d - 18446744073709551616), .bool p]) ∧ Kept W w' := by
  have hp : (p == p) = true := by cases p <;> rfl
  have hbu := build_hlb
  by_cases hk : b + d ≤ 18446744073709551615
  · simp only [if_pos hk]
    have k1 : a + c ≤ 18446744073709551615 := by omega
    clear h
    go_enter Try.func83, Try.ntmps83
    go_wp2
    exact bodyPost_ret (v := .agg #[.int .u64 (a + c), .int .u64 (b + d), .bool p]) (by simp [results, Try.results83, go_sem]) rfl ⟨rfl, (((Kept.refl W).alloc _ _).alloc _ _).alloc _ _⟩
  · simp only [if_neg hk]
    have k1 : a + c + 1 ≤ 18446744073709551615 := by omega
    have k2 : IntKind.u64.wrap (b + d) = b + d - 18446744073709551616 := by rw [u64w]; omega
    clear h
    go_enter Try.func83, Try.ntmps83
    go_wp2
    exact bodyPost_ret (v := .agg #[.int .u64 (a + c + 1), .int .u64 (b + d - 18446744073709551616), .bool p]) (by simp [results, Try.results83, go_sem]) rfl ⟨rfl, (((Kept.refl W).alloc _ _).alloc _ _).alloc _ _⟩
theorem Plus_gnf (a b c d : Int) (z : Bool) (W : World) (ha : 0 ≤ a) (hb : 0 ≤ b) (hc : 0 ≤ c) (hd : 0 ≤ d) (ha' : a ≤ 18446744073709551615) (hb' : b ≤ 18446744073709551615) (hc' : c ≤ 18446744073709551615) (hd' : d ≤ 18446744073709551615)
    (hrel : c ≤ a) (hcond : d ≤ b) (hless : decide (a < c ∨ (a = c ∧ b < d)) = false) (hz : (false && !(a - c == 0 && b - d == 0)) = z) :
    Calls Try.prog 83 #[.agg #[.int .u64 a, .int .u64 b, .bool false], .agg #[.int .u64 c, .int .u64 d, .bool true]] W fun e w' =>
      e = .returned (.agg #[.int .u64 (a - c), .int .u64 (b - d), .bool z]) ∧ Kept W w' := by
  have cL := fun W => less_any a b c d false true W
  rw [hless] at cL
  have cX := fun W => fixed_any (a - c) (b - d) false W
  rw [hz] at cX
  clear hless hz
  have hbu := build_hlb
  go_enter Try.func83, Try.ntmps83
  go_wp2_with (first | ((with_reducible refine (cL _).mono ?_); rintro e w' ⟨rfl, rfl⟩) | ((with_reducible refine (cX _).mono ?_); rintro e w1 ⟨rfl, hb1⟩; obtain ⟨hcc, hff⟩ := bcell hb1))
  refine bodyPost_ret (v := .agg #[.int .u64 (a - c), .int .u64 (b - d), .bool z]) (by simp [results, Try.results83, go_sem, hcc, hff]) rfl ⟨rfl, ?_⟩
  have hk : Kept W w1 := Kept.trans (by repeat (first | exact Kept.refl _ | apply Kept.alloc | (refine Kept.setCell ?_ (by dsimp only; omega) _))) hb1
  exact ((hk.setCell (by dsimp only; omega) _).setCell (by dsimp only; omega) _).setCell (by dsimp only; omega) _
theorem Plus_gnt (a b c d : Int) (z : Bool) (W : World) (ha : 0 ≤ a) (hb : 0 ≤ b) (hc : 0 ≤ c) (hd : 0 ≤ d) (ha' : a ≤ 18446744073709551615) (hb' : b ≤ 18446744073709551615) (hc' : c ≤ 18446744073709551615) (hd' : d ≤ 18446744073709551615)
    (hrel : c ≤ a) (hcond : d ≤ b) (hless : decide (a < c ∨ (a = c ∧ b < d)) = false) (hz : (true && !(a - c == 0 && b - d == 0)) = z) :
    Calls Try.prog 83 #[.agg #[.int .u64 a, .int .u64 b, .bool true], .agg #[.int .u64 c, .int .u64 d, .bool false]] W fun e w' =>
      e = .returned (.agg #[.int .u64 (a - c), .int .u64 (b - d), .bool z]) ∧ Kept W w' := by
  have cL := fun W => less_any a b c d true false W
  rw [hless] at cL
  have cX := fun W => fixed_any (a - c) (b - d) true W
  rw [hz] at cX
  clear hless hz
  have hbu := build_hlb
  go_enter Try.func83, Try.ntmps83
  go_wp2_with (first | ((with_reducible refine (cL _).mono ?_); rintro e w' ⟨rfl, rfl⟩) | ((with_reducible refine (cX _).mono ?_); rintro e w1 ⟨rfl, hb1⟩; obtain ⟨hcc, hff⟩ := bcell hb1))
  refine bodyPost_ret (v := .agg #[.int .u64 (a - c), .int .u64 (b - d), .bool z]) (by simp [results, Try.results83, go_sem, hcc, hff]) rfl ⟨rfl, ?_⟩
  have hk : Kept W w1 := Kept.trans (by repeat (first | exact Kept.refl _ | apply Kept.alloc | (refine Kept.setCell ?_ (by dsimp only; omega) _))) hb1
  exact ((hk.setCell (by dsimp only; omega) _).setCell (by dsimp only; omega) _).setCell (by dsimp only; omega) _
theorem Plus_gcf (a b c d : Int) (z : Bool) (W : World) (ha : 0 ≤ a) (hb : 0 ≤ b) (hc : 0 ≤ c) (hd : 0 ≤ d) (ha' : a ≤ 18446744073709551615) (hb' : b ≤ 18446744073709551615) (hc' : c ≤ 18446744073709551615) (hd' : d ≤ 18446744073709551615)
    (hrel : c < a) (hcond : b < d) (hless : decide (a < c ∨ (a = c ∧ b < d)) = false) (hz : (false && !(a - c - 1 == 0 && b - d + 18446744073709551616 == 0)) = z) :
    Calls Try.prog 83 #[.agg #[.int .u64 a, .int .u64 b, .bool false], .agg #[.int .u64 c, .int .u64 d, .bool true]] W fun e w' =>
      e = .returned (.agg #[.int .u64 (a - c - 1), .int .u64 (b - d + 18446744073709551616), .bool z]) ∧ Kept W w' := by
  have cL := fun W => less_any a b c d false true W
  rw [hless] at cL
  have cX := fun W => fixed_any (a - c - 1) (b - d + 18446744073709551616) false W
  rw [hz] at cX
  clear hless hz
  have hbu := build_hlb
  have k2 : IntKind.u64.wrap (b - d) = b - d + 18446744073709551616 := by rw [u64w]; omega
  go_enter Try.func83, Try.ntmps83
  go_wp2_with (first | ((with_reducible refine (cL _).mono ?_); rintro e w' ⟨rfl, rfl⟩) | ((with_reducible refine (cX _).mono ?_); rintro e w1 ⟨rfl, hb1⟩; obtain ⟨hcc, hff⟩ := bcell hb1))
  refine bodyPost_ret (v := .agg #[.int .u64 (a - c - 1), .int .u64 (b - d + 18446744073709551616), .bool z]) (by simp [results, Try.results83, go_sem, hcc, hff]) rfl ⟨rfl, ?_⟩
  have hk : Kept W w1 := Kept.trans (by repeat (first | exact Kept.refl _ | apply Kept.alloc | (refine Kept.setCell ?_ (by dsimp only; omega) _))) hb1
  exact ((hk.setCell (by dsimp only; omega) _).setCell (by dsimp only; omega) _).setCell (by dsimp only; omega) _
theorem Plus_gct (a b c d : Int) (z : Bool) (W : World) (ha : 0 ≤ a) (hb : 0 ≤ b) (hc : 0 ≤ c) (hd : 0 ≤ d) (ha' : a ≤ 18446744073709551615) (hb' : b ≤ 18446744073709551615) (hc' : c ≤ 18446744073709551615) (hd' : d ≤ 18446744073709551615)
    (hrel : c < a) (hcond : b < d) (hless : decide (a < c ∨ (a = c ∧ b < d)) = false) (hz : (true && !(a - c - 1 == 0 && b - d + 18446744073709551616 == 0)) = z) :
    Calls Try.prog 83 #[.agg #[.int .u64 a, .int .u64 b, .bool true], .agg #[.int .u64 c, .int .u64 d, .bool false]] W fun e w' =>
      e = .returned (.agg #[.int .u64 (a - c - 1), .int .u64 (b - d + 18446744073709551616), .bool z]) ∧ Kept W w' := by
  have cL := fun W => less_any a b c d true false W
  rw [hless] at cL
  have cX := fun W => fixed_any (a - c - 1) (b - d + 18446744073709551616) true W
  rw [hz] at cX
  clear hless hz
  have hbu := build_hlb
  have k2 : IntKind.u64.wrap (b - d) = b - d + 18446744073709551616 := by rw [u64w]; omega
  go_enter Try.func83, Try.ntmps83
  go_wp2_with (first | ((with_reducible refine (cL _).mono ?_); rintro e w' ⟨rfl, rfl⟩) | ((with_reducible refine (cX _).mono ?_); rintro e w1 ⟨rfl, hb1⟩; obtain ⟨hcc, hff⟩ := bcell hb1))
  refine bodyPost_ret (v := .agg #[.int .u64 (a - c - 1), .int .u64 (b - d + 18446744073709551616), .bool z]) (by simp [results, Try.results83, go_sem, hcc, hff]) rfl ⟨rfl, ?_⟩
  have hk : Kept W w1 := Kept.trans (by repeat (first | exact Kept.refl _ | apply Kept.alloc | (refine Kept.setCell ?_ (by dsimp only; omega) _))) hb1
  exact ((hk.setCell (by dsimp only; omega) _).setCell (by dsimp only; omega) _).setCell (by dsimp only; omega) _
theorem Plus_lnf (a b c d : Int) (z : Bool) (W : World) (ha : 0 ≤ a) (hb : 0 ≤ b) (hc : 0 ≤ c) (hd : 0 ≤ d) (ha' : a ≤ 18446744073709551615) (hb' : b ≤ 18446744073709551615) (hc' : c ≤ 18446744073709551615) (hd' : d ≤ 18446744073709551615)
    (hrel : a ≤ c) (hcond : b ≤ d) (hless : decide (a < c ∨ (a = c ∧ b < d)) = true) (hz : (true && !(c - a == 0 && d - b == 0)) = z) :
    Calls Try.prog 83 #[.agg #[.int .u64 a, .int .u64 b, .bool false], .agg #[.int .u64 c, .int .u64 d, .bool true]] W fun e w' =>
      e = .returned (.agg #[.int .u64 (c - a), .int .u64 (d - b), .bool z]) ∧ Kept W w' := by
  have cL := fun W => less_any a b c d false true W
  rw [hless] at cL
  have cX := fun W => fixed_any (c - a) (d - b) true W
  rw [hz] at cX
  clear hless hz
  have hbu := build_hlb
  go_enter Try.func83, Try.ntmps83
  go_wp2_with (first | ((with_reducible refine (cL _).mono ?_); rintro e w' ⟨rfl, rfl⟩) | ((with_reducible refine (cX _).mono ?_); rintro e w1 ⟨rfl, hb1⟩; obtain ⟨hcc, hff⟩ := bcell hb1))
  refine bodyPost_ret (v := .agg #[.int .u64 (c - a), .int .u64 (d - b), .bool z]) (by simp [results, Try.results83, go_sem, hcc, hff]) rfl ⟨rfl, ?_⟩
  have hk : Kept W w1 := Kept.trans (by repeat (first | exact Kept.refl _ | apply Kept.alloc | (refine Kept.setCell ?_ (by dsimp only; omega) _))) hb1
  exact ((hk.setCell (by dsimp only; omega) _).setCell (by dsimp only; omega) _).setCell (by dsimp only; omega) _
theorem Plus_lnt (a b c d : Int) (z : Bool) (W : World) (ha : 0 ≤ a) (hb : 0 ≤ b) (hc : 0 ≤ c) (hd : 0 ≤ d) (ha' : a ≤ 18446744073709551615) (hb' : b ≤ 18446744073709551615) (hc' : c ≤ 18446744073709551615) (hd' : d ≤ 18446744073709551615)
    (hrel : a ≤ c) (hcond : b ≤ d) (hless : decide (a < c ∨ (a = c ∧ b < d)) = true) (hz : (false && !(c - a == 0 && d - b == 0)) = z) :
    Calls Try.prog 83 #[.agg #[.int .u64 a, .int .u64 b, .bool true], .agg #[.int .u64 c, .int .u64 d, .bool false]] W fun e w' =>
      e = .returned (.agg #[.int .u64 (c - a), .int .u64 (d - b), .bool z]) ∧ Kept W w' := by
  have cL := fun W => less_any a b c d true false W
  rw [hless] at cL
  have cX := fun W => fixed_any (c - a) (d - b) false W
  rw [hz] at cX
  clear hless hz
  have hbu := build_hlb
  go_enter Try.func83, Try.ntmps83
  go_wp2_with (first | ((with_reducible refine (cL _).mono ?_); rintro e w' ⟨rfl, rfl⟩) | ((with_reducible refine (cX _).mono ?_); rintro e w1 ⟨rfl, hb1⟩; obtain ⟨hcc, hff⟩ := bcell hb1))
  refine bodyPost_ret (v := .agg #[.int .u64 (c - a), .int .u64 (d - b), .bool z]) (by simp [results, Try.results83, go_sem, hcc, hff]) rfl ⟨rfl, ?_⟩
  have hk : Kept W w1 := Kept.trans (by repeat (first | exact Kept.refl _ | apply Kept.alloc | (refine Kept.setCell ?_ (by dsimp only; omega) _))) hb1
  exact ((hk.setCell (by dsimp only; omega) _).setCell (by dsimp only; omega) _).setCell (by dsimp only; omega) _
theorem Plus_lcf (a b c d : Int) (z : Bool) (W : World) (ha : 0 ≤ a) (hb : 0 ≤ b) (hc : 0 ≤ c) (hd : 0 ≤ d) (ha' : a ≤ 18446744073709551615) (hb' : b ≤ 18446744073709551615) (hc' : c ≤ 18446744073709551615) (hd' : d ≤ 18446744073709551615)
    (hrel : a < c) (hcond : d < b) (hless : decide (a < c ∨ (a = c ∧ b < d)) = true) (hz : (true && !(c - a - 1 == 0 && d - b + 18446744073709551616 == 0)) = z) :
    Calls Try.prog 83 #[.agg #[.int .u64 a, .int .u64 b, .bool false], .agg #[.int .u64 c, .int .u64 d, .bool true]] W fun e w' =>
      e = .returned (.agg #[.int .u64 (c - a - 1), .int .u64 (d - b + 18446744073709551616), .bool z]) ∧ Kept W w' := by
  have cL := fun W => less_any a b c d false true W
  rw [hless] at cL
  have cX := fun W => fixed_any (c - a - 1) (d - b + 18446744073709551616) true W
  rw [hz] at cX
  clear hless hz
  have hbu := build_hlb
  have k2 : IntKind.u64.wrap (d - b) = d - b + 18446744073709551616 := by rw [u64w]; omega
  go_enter Try.func83, Try.ntmps83
  go_wp2_with (first | ((with_reducible refine (cL _).mono ?_); rintro e w' ⟨rfl, rfl⟩) | ((with_reducible refine (cX _).mono ?_); rintro e w1 ⟨rfl, hb1⟩; obtain ⟨hcc, hff⟩ := bcell hb1))
  refine bodyPost_ret (v := .agg #[.int .u64 (c - a - 1), .int .u64 (d - b + 18446744073709551616), .bool z]) (by simp [results, Try.results83, go_sem, hcc, hff]) rfl ⟨rfl, ?_⟩
  have hk : Kept W w1 := Kept.trans (by repeat (first | exact Kept.refl _ | apply Kept.alloc | (refine Kept.setCell ?_ (by dsimp only; omega) _))) hb1
  exact ((hk.setCell (by dsimp only; omega) _).setCell (by dsimp only; omega) _).setCell (by dsimp only; omega) _
theorem Plus_lct (a b c d : Int) (z : Bool) (W : World) (ha : 0 ≤ a) (hb : 0 ≤ b) (hc : 0 ≤ c) (hd : 0 ≤ d) (ha' : a ≤ 18446744073709551615) (hb' : b ≤ 18446744073709551615) (hc' : c ≤ 18446744073709551615) (hd' : d ≤ 18446744073709551615)
    (hrel : a < c) (hcond : d < b) (hless : decide (a < c ∨ (a = c ∧ b < d)) = true) (hz : (false && !(c - a - 1 == 0 && d - b + 18446744073709551616 == 0)) = z) :
    Calls Try.prog 83 #[.agg #[.int .u64 a, .int .u64 b, .bool true], .agg #[.int .u64 c, .int .u64 d, .bool false]] W fun e w' =>
      e = .returned (.agg #[.int .u64 (c - a - 1), .int .u64 (d - b + 18446744073709551616), .bool z]) ∧ Kept W w' := by
  have cL := fun W => less_any a b c d true false W
  rw [hless] at cL
  have cX := fun W => fixed_any (c - a - 1) (d - b + 18446744073709551616) false W
  rw [hz] at cX
  clear hless hz
  have hbu := build_hlb
  have k2 : IntKind.u64.wrap (d - b) = d - b + 18446744073709551616 := by rw [u64w]; omega
  go_enter Try.func83, Try.ntmps83
  go_wp2_with (first | ((with_reducible refine (cL _).mono ?_); rintro e w' ⟨rfl, rfl⟩) | ((with_reducible refine (cX _).mono ?_); rintro e w1 ⟨rfl, hb1⟩; obtain ⟨hcc, hff⟩ := bcell hb1))
  refine bodyPost_ret (v := .agg #[.int .u64 (c - a - 1), .int .u64 (d - b + 18446744073709551616), .bool z]) (by simp [results, Try.results83, go_sem, hcc, hff]) rfl ⟨rfl, ?_⟩
  have hk : Kept W w1 := Kept.trans (by repeat (first | exact Kept.refl _ | apply Kept.alloc | (refine Kept.setCell ?_ (by dsimp only; omega) _))) hb1
  exact ((hk.setCell (by dsimp only; omega) _).setCell (by dsimp only; omega) _).setCell (by dsimp only; omega) _
end Go.Proofs.Ytpjfkmaceaikbaa
