/- Contracts of package bits: wraps, wrapsSigned, leavesRest, breaks. -/
import Derived.Test.YtpjfkmaceaikbaaBitsB
import Derived.Lib.Hide
namespace Go.Proofs.Ytpjfkmaceaikbaa
open Go.RowKit
set_option linter.unusedVariables false
set_option linter.unusedSimpArgs false

theorem wraps_1 (w a b : Int) (wd : World) (h1 : 1 ≤ w) (h2 : w ≤ 64) (ha : 0 ≤ a) (ha' : a < pw w.toNat) (hb : 0 ≤ b) (hb' : b < pw w.toNat) :
    Calls Try.prog 89 #[.int .i64 1, .int .i64 w, .int .u64 a, .int .u64 b] wd fun e w' => e = .returned (.bool (wrB w.toNat 1 a b)) ∧ wd = w' := by
  have hm := msk_in h1 h2
  have hp := pw_le64 (n := w.toNat) (by omega)
  have m1 : a ≤ msk w := by omega
  have m2 : msk w ≤ 18446744073709551615 := by omega
  have m3 : b ≤ msk w := by omega
  have HM := Lib.hid hm
  clear hm hp ha' hb'
  go_enter Try.func89, Try.ntmps89
  go_wp2_with (first | (go_at_call 38; refine (Mask_any _ _).mono ?_; rintro e w' ⟨rfl, rfl⟩) | (go_at_call 96; refine (exceeds_any _ _ _ _ (by omega) (by omega) (by omega) (by omega)).mono ?_; rintro e w' ⟨rfl, rfl⟩))
  go_ret
  exact ⟨ret_bool (wrB1_raw HM.out ha hb), rfl⟩
theorem wraps_2 (w a b : Int) (wd : World) (h1 : 1 ≤ w) (h2 : w ≤ 64) (ha : 0 ≤ a) (ha' : a < pw w.toNat) (hb : 0 ≤ b) (hb' : b < pw w.toNat) :
    Calls Try.prog 89 #[.int .i64 2, .int .i64 w, .int .u64 a, .int .u64 b] wd fun e w' => e = .returned (.bool (wrB w.toNat 2 a b)) ∧ wd = w' := by
  have hm := msk_in h1 h2
  have hp := pw_le64 (n := w.toNat) (by omega)
  have m1 : a ≤ msk w := by omega
  have m2 : msk w ≤ 18446744073709551615 := by omega
  have m3 : b ≤ msk w := by omega
  have HM := Lib.hid hm
  have HR := Lib.hid (wrB2_raw ha ha' hb)
  clear hm hp ha' hb'
  go_enter Try.func89, Try.ntmps89
  go_wp2_with (first | (go_at_call 38; refine (Mask_any _ _).mono ?_; rintro e w' ⟨rfl, rfl⟩) | (go_at_call 96; refine (exceeds_any _ _ _ _ (by omega) (by omega) (by omega) (by omega)).mono ?_; rintro e w' ⟨rfl, rfl⟩))
  go_ret
  exact ⟨ret_bool (HR.out), rfl⟩
theorem wraps_3 (w a b : Int) (wd : World) (h1 : 1 ≤ w) (h2 : w ≤ 64) (ha : 0 ≤ a) (ha' : a < pw w.toNat) (hb : 0 ≤ b) (hb' : b < pw w.toNat) :
    Calls Try.prog 89 #[.int .i64 3, .int .i64 w, .int .u64 a, .int .u64 b] wd fun e w' => e = .returned (.bool (wrB w.toNat 3 a b)) ∧ wd = w' := by
  have hm := msk_in h1 h2
  have hp := pw_le64 (n := w.toNat) (by omega)
  have m1 : a ≤ msk w := by omega
  have m2 : msk w ≤ 18446744073709551615 := by omega
  have m3 : b ≤ msk w := by omega
  have HM := Lib.hid hm
  clear hm hp ha' hb'
  go_enter Try.func89, Try.ntmps89
  go_wp2_with (first | (go_at_call 38; refine (Mask_any _ _).mono ?_; rintro e w' ⟨rfl, rfl⟩) | (go_at_call 96; refine (exceeds_any _ _ _ _ (by omega) (by omega) (by omega) (by omega)).mono ?_; rintro e w' ⟨rfl, rfl⟩))
  go_ret
  exact ⟨ret_bool (wrB3_raw HM.out ha hb), rfl⟩
theorem wraps_11 (w a b : Int) (wd : World) (h1 : 1 ≤ w) (h2 : w ≤ 64) (ha : 0 ≤ a) (ha' : a < pw w.toNat) (hb : 0 ≤ b) (hb' : b < pw w.toNat) (hy : b < w) :
    Calls Try.prog 89 #[.int .i64 11, .int .i64 w, .int .u64 a, .int .u64 b] wd fun e w' => e = .returned (.bool (wrB w.toNat 11 a b)) ∧ wd = w' := by
  have hm := msk_in h1 h2
  have hp := pw_le64 (n := w.toNat) (by omega)
  have m1 : a ≤ msk w := by omega
  have m2 : msk w ≤ 18446744073709551615 := by omega
  have m3 : b ≤ msk w := by omega
  have HM := Lib.hid hm
  clear hm hp ha' hb'
  go_enter Try.func89, Try.ntmps89
  go_wp2_with (first | (go_at_call 38; refine (Mask_any _ _).mono ?_; rintro e w' ⟨rfl, rfl⟩) | (go_at_call 96; refine (exceeds_any _ _ _ _ (by omega) (by omega) (by omega) (by omega)).mono ?_; rintro e w' ⟨rfl, rfl⟩))
  go_ret
  exact ⟨ret_bool (wrB11_raw HM.out ha), rfl⟩
theorem leavesRest_4 (w a b : Int) (wd : World) (h1 : 1 ≤ w) (h2 : w ≤ 64) (ha : 0 ≤ a) (ha' : a < pw w.toNat) (hb : 0 ≤ b) (hb' : b < pw w.toNat) (hy : b ≠ 0) :
    Calls Try.prog 91 #[.int .i64 4, .int .i64 w, .int .u64 a, .int .u64 b] wd fun e w' => e = .returned (.bool (lrB w.toNat 4 a b)) ∧ wd = w' := by
  have hp := pw_le64 (n := w.toNat) (by omega)
  have m1 : a ≤ 18446744073709551615 := by omega
  have m3 : b ≤ 18446744073709551615 := by omega
  clear hp ha' hb'
  have h3 : 1 ≤ b := by omega
  clear hy
  go_enter Try.func91, Try.ntmps91
  go_wp2_with (go_at_call 63; refine (Signed_any _ _ _).mono ?_; rintro e w' ⟨rfl, rfl⟩)
  go_ret
  exact ⟨ret_bool (rfl), rfl⟩
theorem leavesRest_5 (w a b : Int) (wd : World) (h1 : 1 ≤ w) (h2 : w ≤ 64) (ha : 0 ≤ a) (ha' : a < pw w.toNat) (hb : 0 ≤ b) (hb' : b < pw w.toNat) (hy : b ≠ 0) :
    Calls Try.prog 91 #[.int .i64 5, .int .i64 w, .int .u64 a, .int .u64 b] wd fun e w' => e = .returned (.bool (lrB w.toNat 5 a b)) ∧ wd = w' := by
  have ea : sg w.toNat a = sgn w a := by rw [sgn_in _ h1 h2, Int.emod_eq_of_lt ha ha']
  have eb : sg w.toNat b = sgn w b := by rw [sgn_in _ h1 h2, Int.emod_eq_of_lt hb hb']
  have h3 : ¬ sgn w b = 0 := by rw [← eb]; exact sg_nz (by omega) hb hb' hy
  have EA := Lib.hid ea
  have EB := Lib.hid eb
  clear ea eb ha ha' hb hb' hy
  go_enter Try.func91, Try.ntmps91
  go_wp2_with (go_at_call 63; refine (Signed_any _ _ _).mono ?_; rintro e w' ⟨rfl, rfl⟩)
  go_ret
  exact ⟨ret_bool (by rw [← EA.out, ← EB.out]; rfl), rfl⟩
theorem leavesRest_12 (w a b : Int) (wd : World) (h1 : 1 ≤ w) (h2 : w ≤ 64) (ha : 0 ≤ a) (ha' : a < pw w.toNat) (hb : 0 ≤ b) (hb' : b < pw w.toNat) (hy : b < w) :
    Calls Try.prog 91 #[.int .i64 12, .int .i64 w, .int .u64 a, .int .u64 b] wd fun e w' => e = .returned (.bool (lrB w.toNat 12 a b)) ∧ wd = w' := by
  have hp := pw_le64 (n := w.toNat) (by omega)
  have m1 : a ≤ 18446744073709551615 := by omega
  have m3 : b ≤ 18446744073709551615 := by omega
  clear hp ha' hb'
  go_enter Try.func91, Try.ntmps91
  go_wp2_with (go_at_call 63; refine (Signed_any _ _ _).mono ?_; rintro e w' ⟨rfl, rfl⟩)
  go_ret
  exact ⟨ret_bool (lrB_raw (.inl rfl) ha m1), rfl⟩
theorem leavesRest_13 (w a b : Int) (wd : World) (h1 : 1 ≤ w) (h2 : w ≤ 64) (ha : 0 ≤ a) (ha' : a < pw w.toNat) (hb : 0 ≤ b) (hb' : b < pw w.toNat) (hy : b < w) :
    Calls Try.prog 91 #[.int .i64 13, .int .i64 w, .int .u64 a, .int .u64 b] wd fun e w' => e = .returned (.bool (lrB w.toNat 13 a b)) ∧ wd = w' := by
  have hp := pw_le64 (n := w.toNat) (by omega)
  have m1 : a ≤ 18446744073709551615 := by omega
  have m3 : b ≤ 18446744073709551615 := by omega
  clear hp ha' hb'
  go_enter Try.func91, Try.ntmps91
  go_wp2_with (go_at_call 63; refine (Signed_any _ _ _).mono ?_; rintro e w' ⟨rfl, rfl⟩)
  go_ret
  exact ⟨ret_bool (lrB_raw (.inr rfl) ha m1), rfl⟩
theorem wrapsSigned_1 (w a b : Int) (wd : World) (h1 : 1 ≤ w) (h2 : w ≤ 64) (ha : 0 ≤ a) (ha' : a < pw w.toNat) (hb : 0 ≤ b) (hb' : b < pw w.toNat) :
    Calls Try.prog 90 #[.int .i64 1, .int .i64 w, .int .u64 a, .int .u64 b] wd fun e w' => e = .returned (.bool (wsB w.toNat 1 a b)) ∧ wd = w' := by
  have E := Lib.hid (ws1_raw h1 h2 ha ha' hb hb')
  cases hs : decide (sgn w a < 0) <;> cases ht : decide (sgn w b < 0)
  all_goals
    have HS := Lib.hid hs
    have HT := Lib.hid ht
    go_enter Try.func90, Try.ntmps90
    go_wp2_with (first | (go_at_call 97; refine (isBelow_any _ _ _).mono ?_; rintro e w' ⟨rfl, rfl⟩) | (go_at_call 63; refine (Signed_any _ _ _).mono ?_; rintro e w' ⟨rfl, rfl⟩))
    go_ret
    exact ⟨ret_bool (by rw [← E.out, HS.out, HT.out]; simp), rfl⟩
theorem wrapsSigned_2 (w a b : Int) (wd : World) (h1 : 1 ≤ w) (h2 : w ≤ 64) (ha : 0 ≤ a) (ha' : a < pw w.toNat) (hb : 0 ≤ b) (hb' : b < pw w.toNat) :
    Calls Try.prog 90 #[.int .i64 2, .int .i64 w, .int .u64 a, .int .u64 b] wd fun e w' => e = .returned (.bool (wsB w.toNat 2 a b)) ∧ wd = w' := by
  have E := Lib.hid (ws2_raw h1 h2 ha ha' hb hb')
  cases hs : decide (sgn w a < 0) <;> cases ht : decide (sgn w b < 0)
  all_goals
    have HS := Lib.hid hs
    have HT := Lib.hid ht
    go_enter Try.func90, Try.ntmps90
    go_wp2_with (first | (go_at_call 97; refine (isBelow_any _ _ _).mono ?_; rintro e w' ⟨rfl, rfl⟩) | (go_at_call 63; refine (Signed_any _ _ _).mono ?_; rintro e w' ⟨rfl, rfl⟩))
    go_ret
    exact ⟨ret_bool (by rw [← E.out, HS.out, HT.out]; simp), rfl⟩
theorem wrapsSigned_3 (w a b : Int) (wd : World) (h1 : 1 ≤ w) (h2 : w ≤ 64) (ha : 0 ≤ a) (ha' : a < pw w.toNat) (hb : 0 ≤ b) (hb' : b < pw w.toNat) :
    Calls Try.prog 90 #[.int .i64 3, .int .i64 w, .int .u64 a, .int .u64 b] wd fun e w' => e = .returned (.bool (wsB w.toNat 3 a b)) ∧ wd = w' := by
  have E := Lib.hid (ws3_raw h1 h2 ha ha' hb hb')
  have b1 := sgn_bd w a
  have b2 := sgn_bd w b
  have b3 := pw_le63 (n := w.toNat - 1) (by omega)
  have b4 := pw_pos (w.toNat - 1)
  have g1 : 0 ≤ mag (sgn w a) := by unfold mag; split <;> omega
  have g2 : 0 ≤ mag (sgn w b) := by unfold mag; split <;> omega
  cases hs : decide (sgn w a < 0) <;> cases ht : decide (sgn w b < 0)
  all_goals
    have HS := Lib.hid hs
    have HT := Lib.hid ht
    go_enter Try.func90, Try.ntmps90
    go_wp2_with (first | (go_at_call 97; refine (isBelow_any _ _ _).mono ?_; rintro e w' ⟨rfl, rfl⟩) | (go_at_call 95; refine (leastSigned_any _ _ h1 h2).mono ?_; rintro e w' ⟨rfl, rfl⟩) | (go_at_call 98; refine (size_any _ _ _ h1 h2 (by omega) (by omega)).mono ?_; rintro e w' ⟨rfl, rfl⟩) | (go_at_call 96; refine (exceeds_any _ _ _ _ (by omega) (by omega) (by omega) (by omega)).mono ?_; rintro e w' ⟨rfl, rfl⟩))
    go_ret
    exact ⟨ret_bool (by rw [← E.out, HS.out, HT.out]; simp), rfl⟩
theorem wrapsSigned_11 (w a b : Int) (wd : World) (h1 : 1 ≤ w) (h2 : w ≤ 64) (ha : 0 ≤ a) (ha' : a < pw w.toNat) (hb : 0 ≤ b) (hb' : b < pw w.toNat) (hy : b < w) :
    Calls Try.prog 90 #[.int .i64 11, .int .i64 w, .int .u64 a, .int .u64 b] wd fun e w' => e = .returned (.bool (wsB w.toNat 11 a b)) ∧ wd = w' := by
  have E := Lib.hid (ws11_raw h1 h2 ha ha' hb hy)
  go_enter Try.func90, Try.ntmps90
  go_wp2_with (first | (go_at_call 97; refine (isBelow_any _ _ _).mono ?_; rintro e w' ⟨rfl, rfl⟩) | (go_at_call 63; refine (Signed_any _ _ _).mono ?_; rintro e w' ⟨rfl, rfl⟩))
  go_ret
  exact ⟨ret_bool E.out, rfl⟩
end Go.Proofs.Ytpjfkmaceaikbaa
