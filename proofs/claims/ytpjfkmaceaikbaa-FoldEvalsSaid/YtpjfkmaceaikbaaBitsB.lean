/- Contracts of package bits: isBelow, size, exceeds, divide, divideSigned, shift, holds. -/
import Derived.Test.YtpjfkmaceaikbaaBitsA
namespace Go.Proofs.Ytpjfkmaceaikbaa
open Go.RowKit
set_option linter.unusedVariables false
set_option linter.unusedSimpArgs false

theorem isBelow_any (w v : Int) (wd : World) :
    Calls Try.prog 97 #[.int .i64 w, .int .u64 v] wd fun e w' => e = .returned (.bool (decide (sgn w v < 0))) ∧ wd = w' := by
  go_enter Try.func97, Try.ntmps97
  go_wp2_with (go_at_call 63; refine (Signed_any _ _ _).mono ?_; rintro e w' ⟨rfl, rfl⟩)
  go_ret
  exact ⟨ret_bool rfl, rfl⟩

theorem size_any (w v : Int) (wd : World) (h1 : 1 ≤ w) (h2 : w ≤ 64) (hv : 0 ≤ v) (hv' : v < pw w.toNat) :
    Calls Try.prog 98 #[.int .i64 w, .int .u64 v] wd fun e w' => e = .returned (.int .u64 (mag (sgn w v))) ∧ wd = w' := by
  have hb := sgn_bd w v
  by_cases hs : sgn w v < 0
  · go_enter Try.func98, Try.ntmps98
    go_wp2_with (first | (go_at_call 97; refine (isBelow_any _ _ _).mono ?_; rintro e w' ⟨rfl, rfl⟩) | (go_at_call 63; refine (Signed_any _ _ _).mono ?_; rintro e w' ⟨rfl, rfl⟩))
    go_ret
    exact ⟨ret_int (neg_raw _ hb.1 hs), rfl⟩
  · go_enter Try.func98, Try.ntmps98
    go_wp2_with (go_at_call 97; refine (isBelow_any _ _ _).mono ?_; rintro e w' ⟨rfl, rfl⟩)
    go_ret
    exact ⟨ret_int (mag_raw w v h1 h2 hv hv' (by omega)), rfl⟩

theorem exceeds_any (a b l : Int) (wd : World) (ha : 0 ≤ a) (hb : 0 ≤ b) (hl : 0 ≤ l) (hl' : l < 18446744073709551616) :
    Calls Try.prog 96 #[.int .u64 a, .int .u64 b, .int .u64 l] wd fun e w' => e = .returned (.bool (decide (l < a * b))) ∧ wd = w' := by
  by_cases h0 : a = 0
  · subst h0
    go_enter Try.func96, Try.ntmps96
    go_wp2
    go_ret
    exact ⟨ret_bool (by simp; omega), rfl⟩
  · have h0' : (a == 0) = false := by simpa using h0
    have h1 : 1 ≤ a := by omega
    go_enter Try.func96, Try.ntmps96
    go_wp2
    go_ret
    exact ⟨ret_bool (exceeds_raw a b l h1), rfl⟩
theorem divide_any (op a b : Int) (wd : World) (ho : op = 4 ∨ op = 6) (ha : 0 ≤ a) (hb : 0 ≤ b) (ha' : a < 18446744073709551616) (hb' : b < 18446744073709551616) :
    Calls Try.prog 85 #[.int .i64 op, .int .u64 a, .int .u64 b] wd fun e w' => e = .returned (.tuple #[.int .u64 (if b = 0 then 0 else if op = 4 then a / b else a % b), .int .i64 (if b = 0 then 2 else 0)]) ∧ wd = w' := by
  by_cases h0 : b = 0
  · subst h0
    go_enter Try.func85, Try.ntmps85
    go_wp2
    go_ret2
    exact ⟨ret_two rfl rfl, rfl⟩
  · have h1 : 1 ≤ b := by omega
    rcases ho with rfl | rfl
    all_goals
      go_enter Try.func85, Try.ntmps85
      go_wp2
      go_ret2
      refine ⟨ret_two ?_ ?_, rfl⟩
      · simp
      · simp

theorem divideSigned_zero (op w a : Int) (wd : World) (h1 : 1 ≤ w) (h2 : w ≤ 64) :
    Calls Try.prog 86 #[.int .i64 op, .int .i64 w, .int .u64 a, .int .u64 0] wd fun e w' => e = .returned (.tuple #[.int .u64 0, .int .i64 2]) ∧ wd = w' := by
  go_enter Try.func86, Try.ntmps86
  go_wp2_with (first | (go_at_call 95; refine (leastSigned_any _ _ h1 h2).mono ?_; rintro e w' ⟨rfl, rfl⟩) | (go_at_call 38; refine (Mask_any _ _).mono ?_; rintro e w' ⟨rfl, rfl⟩))
  go_ret2
  exact ⟨ret_two rfl rfl, rfl⟩
theorem divideSigned_over (op w a b : Int) (wd : World) (h1 : 1 ≤ w) (h2 : w ≤ 64) (ha : a = pw (w.toNat - 1)) (hb : b = msk w) (h0 : (msk w == 0) = false) :
    Calls Try.prog 86 #[.int .i64 op, .int .i64 w, .int .u64 a, .int .u64 b] wd fun e w' => e = .returned (.tuple #[.int .u64 0, .int .i64 2]) ∧ wd = w' := by
  subst ha; subst hb
  go_enter Try.func86, Try.ntmps86
  go_wp2_with (first | (go_at_call 95; refine (leastSigned_any _ _ h1 h2).mono ?_; rintro e w' ⟨rfl, rfl⟩) | (go_at_call 38; refine (Mask_any _ _).mono ?_; rintro e w' ⟨rfl, rfl⟩))
  go_ret2
  exact ⟨ret_two rfl rfl, rfl⟩

theorem divideSigned_quo (w a b : Int) (wd : World) (h1 : 1 ≤ w) (h2 : w ≤ 64) (ha : 0 ≤ a) (ha' : a < pw w.toNat) (hb : 0 ≤ b) (hb' : b < pw w.toNat) (h0 : b ≠ 0) (hn : ¬ (a = pw (w.toNat - 1) ∧ b = msk w)) :
    Calls Try.prog 86 #[.int .i64 5, .int .i64 w, .int .u64 a, .int .u64 b] wd fun e w' => e = .returned (.tuple #[.int .u64 ((sg w.toNat a).tdiv (sg w.toNat b) % pw w.toNat), .int .i64 0]) ∧ ∃ n, w' = wd.drewN n := by
  have ea : sg w.toNat a = sgn w a := by rw [sgn_in _ h1 h2, Int.emod_eq_of_lt ha ha']
  have eb : sg w.toNat b = sgn w b := by rw [sgn_in _ h1 h2, Int.emod_eq_of_lt hb hb']
  have h3 : ¬ sgn w b = 0 := by rw [← eb]; exact sg_nz (by omega) hb hb' h0
  rw [ea, eb]
  have h0' : (b == 0) = false := by simpa using h0
  clear ea eb ha ha' hb hb' h0
  have fin : Hid (∀ n, Calls Try.prog 38 #[.int .i64 w] (wd.drewN n) fun e w'' => e = .returned (.int .u64 (msk w)) ∧ ∃ m, w'' = wd.drewN m) := fun n => quiet_left (Mask_any w _)
  by_cases hq : a = pw (w.toNat - 1)
  · have hm : (b == msk w) = false := by simp only [beq_eq_false_iff_ne]; exact fun h => hn ⟨hq, h⟩
    subst hq
    clear hn
    go_enter Try.func86, Try.ntmps86
    go_wp2_with (first | (go_at_call 95; refine (leastSigned_any _ _ h1 h2).mono ?_; rintro e w' ⟨rfl, rfl⟩) | (go_at_call 38; refine (Mask_any _ _).mono ?_; rintro e w' ⟨rfl, rfl⟩) | (go_at_call 63; refine (Signed_any _ _ _).mono ?_; rintro e w' ⟨rfl, rfl⟩))
    go_quiet ((go_at_call 38; exact fin.out _))
    go_wp2
    go_ret2
    exact ⟨ret_two (quo_raw h1 h2) rfl, _, rfl⟩
  · have hq' : (a == pw (w.toNat - 1)) = false := by simpa using hq
    clear hn hq
    go_enter Try.func86, Try.ntmps86
    go_wp2_with (first | (go_at_call 95; refine (leastSigned_any _ _ h1 h2).mono ?_; rintro e w' ⟨rfl, rfl⟩) | (go_at_call 38; refine (Mask_any _ _).mono ?_; rintro e w' ⟨rfl, rfl⟩) | (go_at_call 63; refine (Signed_any _ _ _).mono ?_; rintro e w' ⟨rfl, rfl⟩))
    go_quiet ((go_at_call 38; exact fin.out _))
    go_wp2
    go_ret2
    exact ⟨ret_two (quo_raw h1 h2) rfl, _, rfl⟩

theorem divideSigned_rem (w a b : Int) (wd : World) (h1 : 1 ≤ w) (h2 : w ≤ 64) (ha : 0 ≤ a) (ha' : a < pw w.toNat) (hb : 0 ≤ b) (hb' : b < pw w.toNat) (h0 : b ≠ 0) (hn : ¬ (a = pw (w.toNat - 1) ∧ b = msk w)) :
    Calls Try.prog 86 #[.int .i64 7, .int .i64 w, .int .u64 a, .int .u64 b] wd fun e w' => e = .returned (.tuple #[.int .u64 ((sg w.toNat a).tmod (sg w.toNat b) % pw w.toNat), .int .i64 0]) ∧ ∃ n, w' = wd.drewN n := by
  have ea : sg w.toNat a = sgn w a := by rw [sgn_in _ h1 h2, Int.emod_eq_of_lt ha ha']
  have eb : sg w.toNat b = sgn w b := by rw [sgn_in _ h1 h2, Int.emod_eq_of_lt hb hb']
  have h3 : ¬ sgn w b = 0 := by rw [← eb]; exact sg_nz (by omega) hb hb' h0
  rw [ea, eb]
  have h0' : (b == 0) = false := by simpa using h0
  clear ea eb ha ha' hb hb' h0
  have fin : Hid (∀ n, Calls Try.prog 38 #[.int .i64 w] (wd.drewN n) fun e w'' => e = .returned (.int .u64 (msk w)) ∧ ∃ m, w'' = wd.drewN m) := fun n => quiet_left (Mask_any w _)
  by_cases hq : a = pw (w.toNat - 1)
  · have hm : (b == msk w) = false := by simp only [beq_eq_false_iff_ne]; exact fun h => hn ⟨hq, h⟩
    subst hq
    clear hn
    go_enter Try.func86, Try.ntmps86
    go_wp2_with (first | (go_at_call 95; refine (leastSigned_any _ _ h1 h2).mono ?_; rintro e w' ⟨rfl, rfl⟩) | (go_at_call 38; refine (Mask_any _ _).mono ?_; rintro e w' ⟨rfl, rfl⟩) | (go_at_call 63; refine (Signed_any _ _ _).mono ?_; rintro e w' ⟨rfl, rfl⟩))
    go_quiet ((go_at_call 38; exact fin.out _))
    go_wp2
    go_ret2
    exact ⟨ret_two (and_msk_wrap _ _ h1 h2) rfl, _, rfl⟩
  · have hq' : (a == pw (w.toNat - 1)) = false := by simpa using hq
    clear hn hq
    go_enter Try.func86, Try.ntmps86
    go_wp2_with (first | (go_at_call 95; refine (leastSigned_any _ _ h1 h2).mono ?_; rintro e w' ⟨rfl, rfl⟩) | (go_at_call 38; refine (Mask_any _ _).mono ?_; rintro e w' ⟨rfl, rfl⟩) | (go_at_call 63; refine (Signed_any _ _ _).mono ?_; rintro e w' ⟨rfl, rfl⟩))
    go_quiet ((go_at_call 38; exact fin.out _))
    go_wp2
    go_ret2
    exact ⟨ret_two (and_msk_wrap _ _ h1 h2) rfl, _, rfl⟩

theorem shift_over (op w a b : Int) (wd : World) (h1 : 1 ≤ w) (h2 : w ≤ 64) (hb : w ≤ b) :
    Calls Try.prog 87 #[.int .i64 op, .int .i64 w, .int .u64 a, .int .u64 b] wd fun e w' => e = .returned (.tuple #[.int .u64 0, .int .i64 1]) ∧ wd = w' := by
  go_enter Try.func87, Try.ntmps87
  go_wp2
  go_ret2
  exact ⟨ret_two rfl rfl, rfl⟩
theorem shift_shl (w a b : Int) (wd : World) (h1 : 1 ≤ w) (h2 : w ≤ 64) (hb : 0 ≤ b) (hb' : b < w) :
    Calls Try.prog 87 #[.int .i64 11, .int .i64 w, .int .u64 a, .int .u64 b] wd fun e w' => e = .returned (.tuple #[.int .u64 (a * pw b.toNat % pw w.toNat), .int .i64 0]) ∧ wd = w' := by
  go_enter Try.func87, Try.ntmps87
  go_wp2_with (go_at_call 38; refine (Mask_any _ _).mono ?_; rintro e w' ⟨rfl, rfl⟩)
  go_ret2
  exact ⟨ret_two (and_msk_wrap _ _ h1 h2) rfl, rfl⟩
theorem shift_lshr (w a b : Int) (wd : World) (h1 : 1 ≤ w) (h2 : w ≤ 64) (hb : 0 ≤ b) (hb' : b < w) :
    Calls Try.prog 87 #[.int .i64 12, .int .i64 w, .int .u64 a, .int .u64 b] wd fun e w' => e = .returned (.tuple #[.int .u64 (a / pw b.toNat), .int .i64 0]) ∧ wd = w' := by
  go_enter Try.func87, Try.ntmps87
  go_wp2
  go_ret2
  exact ⟨ret_two rfl rfl, rfl⟩
theorem shift_ashr (w a b : Int) (wd : World) (h1 : 1 ≤ w) (h2 : w ≤ 64) (ha : 0 ≤ a) (ha' : a < pw w.toNat) (hb : 0 ≤ b) (hb' : b < w) :
    Calls Try.prog 87 #[.int .i64 13, .int .i64 w, .int .u64 a, .int .u64 b] wd fun e w' => e = .returned (.tuple #[.int .u64 (sg w.toNat a / pw b.toNat % pw w.toNat), .int .i64 0]) ∧ wd = w' := by
  have ea : sg w.toNat a = sgn w a := by rw [sgn_in _ h1 h2, Int.emod_eq_of_lt ha ha']
  rw [ea]
  clear ea ha ha'
  go_enter Try.func87, Try.ntmps87
  go_wp2_with (first | (go_at_call 38; refine (Mask_any _ _).mono ?_; rintro e w' ⟨rfl, rfl⟩) | (go_at_call 63; refine (Signed_any _ _ _).mono ?_; rintro e w' ⟨rfl, rfl⟩))
  go_ret2
  exact ⟨ret_two (and_msk_wrap _ _ h1 h2) rfl, rfl⟩

theorem holds_any (op w a b : Int) (wd : World) (ho : op = 14 ∨ op = 15 ∨ op = 16 ∨ op = 17 ∨ op = 18 ∨ op = 19) :
    Calls Try.prog 88 #[.int .i64 op, .int .i64 w, .int .u64 a, .int .u64 b] wd fun e w' => e = .returned (.bool (cmpB op a b (sgn w a) (sgn w b))) ∧ wd = w' := by
  rcases ho with rfl | rfl | rfl | rfl | rfl | rfl
  all_goals
    go_enter Try.func88, Try.ntmps88
    go_wp2_with (go_at_call 63; refine (Signed_any _ _ _).mono ?_; rintro e w' ⟨rfl, rfl⟩)
    go_ret
    exact ⟨ret_bool rfl, rfl⟩
end Go.Proofs.Ytpjfkmaceaikbaa
