/- Contracts of package bits: plain. -/
import Derived.Test.YtpjfkmaceaikbaaBitsB
import Derived.Lib.Hide
namespace Go.Proofs.Ytpjfkmaceaikbaa
open Go.RowKit
set_option linter.unusedVariables false
set_option linter.unusedSimpArgs false

theorem plain_1 (w a b : Int) (wd : World) (h1 : 1 ≤ w) (h2 : w ≤ 64) (ha : 0 ≤ a) (ha' : a < pw w.toNat) (hb : 0 ≤ b) (hb' : b < pw w.toNat) :
    Calls Try.prog 75 #[.int .i64 1, .int .i64 w, .int .u64 a, .int .u64 b] wd fun e w' => e = .returned (.tuple #[.int .u64 (plR w.toNat 1 a b), .int .i64 (plE w.toNat 1 a b)]) ∧ ∃ n, w' = wd.drewN n := by
  go_enter Try.func75, Try.ntmps75
  go_wp2_with (go_at_call 38; refine (Mask_any _ _).mono ?_; rintro e w' ⟨rfl, rfl⟩)
  go_ret2
  exact ⟨ret_two (and_msk_wrap _ _ h1 h2) rfl, 0, rfl⟩

theorem plain_2 (w a b : Int) (wd : World) (h1 : 1 ≤ w) (h2 : w ≤ 64) (ha : 0 ≤ a) (ha' : a < pw w.toNat) (hb : 0 ≤ b) (hb' : b < pw w.toNat) :
    Calls Try.prog 75 #[.int .i64 2, .int .i64 w, .int .u64 a, .int .u64 b] wd fun e w' => e = .returned (.tuple #[.int .u64 (plR w.toNat 2 a b), .int .i64 (plE w.toNat 2 a b)]) ∧ ∃ n, w' = wd.drewN n := by
  go_enter Try.func75, Try.ntmps75
  go_wp2_with (go_at_call 38; refine (Mask_any _ _).mono ?_; rintro e w' ⟨rfl, rfl⟩)
  go_ret2
  exact ⟨ret_two (and_msk_wrap _ _ h1 h2) rfl, 0, rfl⟩

theorem plain_3 (w a b : Int) (wd : World) (h1 : 1 ≤ w) (h2 : w ≤ 64) (ha : 0 ≤ a) (ha' : a < pw w.toNat) (hb : 0 ≤ b) (hb' : b < pw w.toNat) :
    Calls Try.prog 75 #[.int .i64 3, .int .i64 w, .int .u64 a, .int .u64 b] wd fun e w' => e = .returned (.tuple #[.int .u64 (plR w.toNat 3 a b), .int .i64 (plE w.toNat 3 a b)]) ∧ ∃ n, w' = wd.drewN n := by
  go_enter Try.func75, Try.ntmps75
  go_wp2_with (go_at_call 38; refine (Mask_any _ _).mono ?_; rintro e w' ⟨rfl, rfl⟩)
  go_ret2
  exact ⟨ret_two (and_msk_wrap _ _ h1 h2) rfl, 0, rfl⟩

theorem plain_8 (w a b : Int) (wd : World) (h1 : 1 ≤ w) (h2 : w ≤ 64) (ha : 0 ≤ a) (ha' : a < pw w.toNat) (hb : 0 ≤ b) (hb' : b < pw w.toNat) :
    Calls Try.prog 75 #[.int .i64 8, .int .i64 w, .int .u64 a, .int .u64 b] wd fun e w' => e = .returned (.tuple #[.int .u64 (plR w.toNat 8 a b), .int .i64 (plE w.toNat 8 a b)]) ∧ ∃ n, w' = wd.drewN n := by
  go_enter Try.func75, Try.ntmps75
  go_wp2
  go_ret2
  exact ⟨ret_two rfl rfl, 0, rfl⟩

theorem plain_9 (w a b : Int) (wd : World) (h1 : 1 ≤ w) (h2 : w ≤ 64) (ha : 0 ≤ a) (ha' : a < pw w.toNat) (hb : 0 ≤ b) (hb' : b < pw w.toNat) :
    Calls Try.prog 75 #[.int .i64 9, .int .i64 w, .int .u64 a, .int .u64 b] wd fun e w' => e = .returned (.tuple #[.int .u64 (plR w.toNat 9 a b), .int .i64 (plE w.toNat 9 a b)]) ∧ ∃ n, w' = wd.drewN n := by
  go_enter Try.func75, Try.ntmps75
  go_wp2
  go_ret2
  exact ⟨ret_two rfl rfl, 0, rfl⟩

theorem plain_10 (w a b : Int) (wd : World) (h1 : 1 ≤ w) (h2 : w ≤ 64) (ha : 0 ≤ a) (ha' : a < pw w.toNat) (hb : 0 ≤ b) (hb' : b < pw w.toNat) :
    Calls Try.prog 75 #[.int .i64 10, .int .i64 w, .int .u64 a, .int .u64 b] wd fun e w' => e = .returned (.tuple #[.int .u64 (plR w.toNat 10 a b), .int .i64 (plE w.toNat 10 a b)]) ∧ ∃ n, w' = wd.drewN n := by
  go_enter Try.func75, Try.ntmps75
  go_wp2
  go_ret2
  exact ⟨ret_two rfl rfl, 0, rfl⟩

theorem plain_4 (w a b : Int) (wd : World) (h1 : 1 ≤ w) (h2 : w ≤ 64) (ha : 0 ≤ a) (ha' : a < pw w.toNat) (hb : 0 ≤ b) (hb' : b < pw w.toNat) :
    Calls Try.prog 75 #[.int .i64 4, .int .i64 w, .int .u64 a, .int .u64 b] wd fun e w' => e = .returned (.tuple #[.int .u64 (plR w.toNat 4 a b), .int .i64 (plE w.toNat 4 a b)]) ∧ ∃ n, w' = wd.drewN n := by
  have hm := pw_le64 (n := w.toNat) (by omega)
  have ha2 : a < 18446744073709551616 := by omega
  have hb2 : b < 18446744073709551616 := by omega
  clear ha' hb' hm
  by_cases h0 : b = 0
  · subst h0
    go_enter Try.func75, Try.ntmps75
    go_wp2_with (go_at_call 85; refine (divide_any _ _ _ _ (by omega) (by omega) (by omega) (by omega) (by omega)).mono ?_; rintro e w' ⟨rfl, rfl⟩)
    go_ret2
    exact ⟨ret_two rfl rfl, 0, rfl⟩
  · have h3 := h0
    go_enter Try.func75, Try.ntmps75
    go_wp2_with (go_at_call 85; refine (divide_any _ _ _ _ (by omega) (by omega) (by omega) (by omega) (by omega)).mono ?_; rintro e w' ⟨rfl, rfl⟩)
    go_ret2
    exact ⟨ret_two (by simp [plR, plE, plV, h0]) (by simp [plE, h0]), 0, rfl⟩

theorem plain_6 (w a b : Int) (wd : World) (h1 : 1 ≤ w) (h2 : w ≤ 64) (ha : 0 ≤ a) (ha' : a < pw w.toNat) (hb : 0 ≤ b) (hb' : b < pw w.toNat) :
    Calls Try.prog 75 #[.int .i64 6, .int .i64 w, .int .u64 a, .int .u64 b] wd fun e w' => e = .returned (.tuple #[.int .u64 (plR w.toNat 6 a b), .int .i64 (plE w.toNat 6 a b)]) ∧ ∃ n, w' = wd.drewN n := by
  have hm := pw_le64 (n := w.toNat) (by omega)
  have ha2 : a < 18446744073709551616 := by omega
  have hb2 : b < 18446744073709551616 := by omega
  clear ha' hb' hm
  by_cases h0 : b = 0
  · subst h0
    go_enter Try.func75, Try.ntmps75
    go_wp2_with (go_at_call 85; refine (divide_any _ _ _ _ (by omega) (by omega) (by omega) (by omega) (by omega)).mono ?_; rintro e w' ⟨rfl, rfl⟩)
    go_ret2
    exact ⟨ret_two rfl rfl, 0, rfl⟩
  · have h3 := h0
    go_enter Try.func75, Try.ntmps75
    go_wp2_with (go_at_call 85; refine (divide_any _ _ _ _ (by omega) (by omega) (by omega) (by omega) (by omega)).mono ?_; rintro e w' ⟨rfl, rfl⟩)
    go_ret2
    exact ⟨ret_two (by simp [plR, plE, plV, h0]) (by simp [plE, h0]), 0, rfl⟩

theorem plain_5 (w a b : Int) (wd : World) (h1 : 1 ≤ w) (h2 : w ≤ 64) (ha : 0 ≤ a) (ha' : a < pw w.toNat) (hb : 0 ≤ b) (hb' : b < pw w.toNat) :
    Calls Try.prog 75 #[.int .i64 5, .int .i64 w, .int .u64 a, .int .u64 b] wd fun e w' => e = .returned (.tuple #[.int .u64 (plR w.toNat 5 a b), .int .i64 (plE w.toNat 5 a b)]) ∧ ∃ n, w' = wd.drewN n := by
  by_cases h0 : b = 0
  · subst h0
    clear ha ha' hb hb'
    go_enter Try.func75, Try.ntmps75
    go_wp2_with (go_at_call 86; refine (divideSigned_zero _ _ _ _ h1 h2).mono ?_; rintro e w' ⟨rfl, rfl⟩)
    go_ret2
    exact ⟨ret_two rfl rfl, 0, rfl⟩
  · have hE : Hid (plE w.toNat 5 a b = if a = pw (w.toNat - 1) ∧ b = pw w.toNat - 1 then 2 else 0) := by
      show _ = _
      simp [plE, h0]
    by_cases hn : a = pw (w.toNat - 1) ∧ b = msk w
    · have hk : Hid (a = pw (w.toNat - 1) ∧ b = pw w.toNat - 1) := ⟨hn.1, by rw [hn.2, msk_in h1 h2]⟩
      have cc := fun W => divideSigned_over 5 w a b W h1 h2 hn.1 hn.2 (by rw [← hn.2]; simpa using h0)
      clear hn h0 ha ha' hb hb'
      go_enter Try.func75, Try.ntmps75
      go_wp2_with (go_at_call 86; refine (cc _).mono ?_; rintro e w' ⟨rfl, rfl⟩)
      go_ret2
      have e2 : plE w.toNat 5 a b = 2 := by rw [hE.out, if_pos hk.out]
      exact ⟨ret_two (by simp [plR, e2]) e2.symm, 0, rfl⟩
    · have hk : Hid (¬ (a = pw (w.toNat - 1) ∧ b = pw w.toNat - 1)) := by
        show ¬ _
        rw [← msk_in h1 h2]; exact hn
      have cc := fun W => divideSigned_quo w a b W h1 h2 ha ha' hb hb' h0 hn
      clear hn h0 ha ha' hb hb'
      go_enter Try.func75, Try.ntmps75
      go_wp2_with (go_at_call 86; refine (cc _).mono ?_; rintro e w' ⟨rfl, n, rfl⟩)
      go_ret2
      have e2 : plE w.toNat 5 a b = 0 := by rw [hE.out, if_neg hk.out]
      exact ⟨ret_two (by simp [plR, e2]; rfl) e2.symm, _, rfl⟩

theorem plain_7 (w a b : Int) (wd : World) (h1 : 1 ≤ w) (h2 : w ≤ 64) (ha : 0 ≤ a) (ha' : a < pw w.toNat) (hb : 0 ≤ b) (hb' : b < pw w.toNat) :
    Calls Try.prog 75 #[.int .i64 7, .int .i64 w, .int .u64 a, .int .u64 b] wd fun e w' => e = .returned (.tuple #[.int .u64 (plR w.toNat 7 a b), .int .i64 (plE w.toNat 7 a b)]) ∧ ∃ n, w' = wd.drewN n := by
  by_cases h0 : b = 0
  · subst h0
    clear ha ha' hb hb'
    go_enter Try.func75, Try.ntmps75
    go_wp2_with (go_at_call 86; refine (divideSigned_zero _ _ _ _ h1 h2).mono ?_; rintro e w' ⟨rfl, rfl⟩)
    go_ret2
    exact ⟨ret_two rfl rfl, 0, rfl⟩
  · have hE : Hid (plE w.toNat 7 a b = if a = pw (w.toNat - 1) ∧ b = pw w.toNat - 1 then 2 else 0) := by
      show _ = _
      simp [plE, h0]
    by_cases hn : a = pw (w.toNat - 1) ∧ b = msk w
    · have hk : Hid (a = pw (w.toNat - 1) ∧ b = pw w.toNat - 1) := ⟨hn.1, by rw [hn.2, msk_in h1 h2]⟩
      have cc := fun W => divideSigned_over 7 w a b W h1 h2 hn.1 hn.2 (by rw [← hn.2]; simpa using h0)
      clear hn h0 ha ha' hb hb'
      go_enter Try.func75, Try.ntmps75
      go_wp2_with (go_at_call 86; refine (cc _).mono ?_; rintro e w' ⟨rfl, rfl⟩)
      go_ret2
      have e2 : plE w.toNat 7 a b = 2 := by rw [hE.out, if_pos hk.out]
      exact ⟨ret_two (by simp [plR, e2]) e2.symm, 0, rfl⟩
    · have hk : Hid (¬ (a = pw (w.toNat - 1) ∧ b = pw w.toNat - 1)) := by
        show ¬ _
        rw [← msk_in h1 h2]; exact hn
      have cc := fun W => divideSigned_rem w a b W h1 h2 ha ha' hb hb' h0 hn
      clear hn h0 ha ha' hb hb'
      go_enter Try.func75, Try.ntmps75
      go_wp2_with (go_at_call 86; refine (cc _).mono ?_; rintro e w' ⟨rfl, n, rfl⟩)
      go_ret2
      have e2 : plE w.toNat 7 a b = 0 := by rw [hE.out, if_neg hk.out]
      exact ⟨ret_two (by simp [plR, e2]; rfl) e2.symm, _, rfl⟩

theorem plain_11 (w a b : Int) (wd : World) (h1 : 1 ≤ w) (h2 : w ≤ 64) (ha : 0 ≤ a) (ha' : a < pw w.toNat) (hb : 0 ≤ b) (hb' : b < pw w.toNat) :
    Calls Try.prog 75 #[.int .i64 11, .int .i64 w, .int .u64 a, .int .u64 b] wd fun e w' => e = .returned (.tuple #[.int .u64 (plR w.toNat 11 a b), .int .i64 (plE w.toNat 11 a b)]) ∧ ∃ n, w' = wd.drewN n := by
  have hc : ((w.toNat : Nat) : Int) = w := by omega
  by_cases h0 : w ≤ b
  · have e2 : Hid (plE w.toNat 11 a b = 1) := by show _ = _; simp [plE]; omega
    have cc := fun W => shift_over 11 w a b W h1 h2 h0
    clear h0 hc ha ha' hb hb'
    go_enter Try.func75, Try.ntmps75
    go_wp2_with (go_at_call 87; refine (cc _).mono ?_; rintro e w' ⟨rfl, rfl⟩)
    go_ret2
    exact ⟨ret_two (by simp [plR, e2.out]) e2.out.symm, 0, rfl⟩
  · have e2 : Hid (plE w.toNat 11 a b = 0) := by show _ = _; simp [plE]; omega
    have cc := fun W => shift_shl w a b W h1 h2 hb (by omega)
    clear h0 hc ha ha' hb hb'
    go_enter Try.func75, Try.ntmps75
    go_wp2_with (go_at_call 87; refine (cc _).mono ?_; rintro e w' ⟨rfl, rfl⟩)
    go_ret2
    exact ⟨ret_two (by simp [plR, e2.out]; rfl) e2.out.symm, 0, rfl⟩

theorem plain_12 (w a b : Int) (wd : World) (h1 : 1 ≤ w) (h2 : w ≤ 64) (ha : 0 ≤ a) (ha' : a < pw w.toNat) (hb : 0 ≤ b) (hb' : b < pw w.toNat) :
    Calls Try.prog 75 #[.int .i64 12, .int .i64 w, .int .u64 a, .int .u64 b] wd fun e w' => e = .returned (.tuple #[.int .u64 (plR w.toNat 12 a b), .int .i64 (plE w.toNat 12 a b)]) ∧ ∃ n, w' = wd.drewN n := by
  have hc : ((w.toNat : Nat) : Int) = w := by omega
  by_cases h0 : w ≤ b
  · have e2 : Hid (plE w.toNat 12 a b = 1) := by show _ = _; simp [plE]; omega
    have cc := fun W => shift_over 12 w a b W h1 h2 h0
    clear h0 hc ha ha' hb hb'
    go_enter Try.func75, Try.ntmps75
    go_wp2_with (go_at_call 87; refine (cc _).mono ?_; rintro e w' ⟨rfl, rfl⟩)
    go_ret2
    exact ⟨ret_two (by simp [plR, e2.out]) e2.out.symm, 0, rfl⟩
  · have e2 : Hid (plE w.toNat 12 a b = 0) := by show _ = _; simp [plE]; omega
    have cc := fun W => shift_lshr w a b W h1 h2 hb (by omega)
    clear h0 hc ha ha' hb hb'
    go_enter Try.func75, Try.ntmps75
    go_wp2_with (go_at_call 87; refine (cc _).mono ?_; rintro e w' ⟨rfl, rfl⟩)
    go_ret2
    exact ⟨ret_two (by simp [plR, e2.out]; rfl) e2.out.symm, 0, rfl⟩

theorem plain_13 (w a b : Int) (wd : World) (h1 : 1 ≤ w) (h2 : w ≤ 64) (ha : 0 ≤ a) (ha' : a < pw w.toNat) (hb : 0 ≤ b) (hb' : b < pw w.toNat) :
    Calls Try.prog 75 #[.int .i64 13, .int .i64 w, .int .u64 a, .int .u64 b] wd fun e w' => e = .returned (.tuple #[.int .u64 (plR w.toNat 13 a b), .int .i64 (plE w.toNat 13 a b)]) ∧ ∃ n, w' = wd.drewN n := by
  have hc : ((w.toNat : Nat) : Int) = w := by omega
  by_cases h0 : w ≤ b
  · have e2 : Hid (plE w.toNat 13 a b = 1) := by show _ = _; simp [plE]; omega
    have cc := fun W => shift_over 13 w a b W h1 h2 h0
    clear h0 hc ha ha' hb hb'
    go_enter Try.func75, Try.ntmps75
    go_wp2_with (go_at_call 87; refine (cc _).mono ?_; rintro e w' ⟨rfl, rfl⟩)
    go_ret2
    exact ⟨ret_two (by simp [plR, e2.out]) e2.out.symm, 0, rfl⟩
  · have e2 : Hid (plE w.toNat 13 a b = 0) := by show _ = _; simp [plE]; omega
    have cc := fun W => shift_ashr w a b W h1 h2 ha ha' hb (by omega)
    clear h0 hc ha ha' hb hb'
    go_enter Try.func75, Try.ntmps75
    go_wp2_with (go_at_call 87; refine (cc _).mono ?_; rintro e w' ⟨rfl, rfl⟩)
    go_ret2
    exact ⟨ret_two (by simp [plR, e2.out]; rfl) e2.out.symm, 0, rfl⟩

theorem plain_14 (w a b : Int) (wd : World) (h1 : 1 ≤ w) (h2 : w ≤ 64) (ha : 0 ≤ a) (ha' : a < pw w.toNat) (hb : 0 ≤ b) (hb' : b < pw w.toNat) :
    Calls Try.prog 75 #[.int .i64 14, .int .i64 w, .int .u64 a, .int .u64 b] wd fun e w' => e = .returned (.tuple #[.int .u64 (plR w.toNat 14 a b), .int .i64 (plE w.toNat 14 a b)]) ∧ ∃ n, w' = wd.drewN n := by
  have ea : sgn w a = sg w.toNat a := by rw [sgn_in _ h1 h2, Int.emod_eq_of_lt ha ha']
  have eb : sgn w b = sg w.toNat b := by rw [sgn_in _ h1 h2, Int.emod_eq_of_lt hb hb']
  have cc : ∀ W, _ := fun W => holds_any 14 w a b W (by omega)
  rw [ea, eb] at cc
  clear ea eb ha ha' hb hb'
  have e2 : Hid (plR w.toNat 14 a b = if cmpB 14 a b (sg w.toNat a) (sg w.toNat b) then 1 else 0) := rfl
  cases hq : cmpB 14 a b (sg w.toNat a) (sg w.toNat b)
  all_goals
    rw [hq] at cc
    have e3 := Lib.hid hq
    clear hq
    go_enter Try.func75, Try.ntmps75
    go_wp2_with (go_at_call 88; refine (cc _).mono ?_; rintro e w' ⟨rfl, rfl⟩)
    go_ret2
    exact ⟨ret_two (by rw [e2.out, e3.out]; rfl) rfl, 0, rfl⟩

theorem plain_15 (w a b : Int) (wd : World) (h1 : 1 ≤ w) (h2 : w ≤ 64) (ha : 0 ≤ a) (ha' : a < pw w.toNat) (hb : 0 ≤ b) (hb' : b < pw w.toNat) :
    Calls Try.prog 75 #[.int .i64 15, .int .i64 w, .int .u64 a, .int .u64 b] wd fun e w' => e = .returned (.tuple #[.int .u64 (plR w.toNat 15 a b), .int .i64 (plE w.toNat 15 a b)]) ∧ ∃ n, w' = wd.drewN n := by
  have ea : sgn w a = sg w.toNat a := by rw [sgn_in _ h1 h2, Int.emod_eq_of_lt ha ha']
  have eb : sgn w b = sg w.toNat b := by rw [sgn_in _ h1 h2, Int.emod_eq_of_lt hb hb']
  have cc : ∀ W, _ := fun W => holds_any 15 w a b W (by omega)
  rw [ea, eb] at cc
  clear ea eb ha ha' hb hb'
  have e2 : Hid (plR w.toNat 15 a b = if cmpB 15 a b (sg w.toNat a) (sg w.toNat b) then 1 else 0) := rfl
  cases hq : cmpB 15 a b (sg w.toNat a) (sg w.toNat b)
  all_goals
    rw [hq] at cc
    have e3 := Lib.hid hq
    clear hq
    go_enter Try.func75, Try.ntmps75
    go_wp2_with (go_at_call 88; refine (cc _).mono ?_; rintro e w' ⟨rfl, rfl⟩)
    go_ret2
    exact ⟨ret_two (by rw [e2.out, e3.out]; rfl) rfl, 0, rfl⟩

theorem plain_16 (w a b : Int) (wd : World) (h1 : 1 ≤ w) (h2 : w ≤ 64) (ha : 0 ≤ a) (ha' : a < pw w.toNat) (hb : 0 ≤ b) (hb' : b < pw w.toNat) :
    Calls Try.prog 75 #[.int .i64 16, .int .i64 w, .int .u64 a, .int .u64 b] wd fun e w' => e = .returned (.tuple #[.int .u64 (plR w.toNat 16 a b), .int .i64 (plE w.toNat 16 a b)]) ∧ ∃ n, w' = wd.drewN n := by
  have ea : sgn w a = sg w.toNat a := by rw [sgn_in _ h1 h2, Int.emod_eq_of_lt ha ha']
  have eb : sgn w b = sg w.toNat b := by rw [sgn_in _ h1 h2, Int.emod_eq_of_lt hb hb']
  have cc : ∀ W, _ := fun W => holds_any 16 w a b W (by omega)
  rw [ea, eb] at cc
  clear ea eb ha ha' hb hb'
  have e2 : Hid (plR w.toNat 16 a b = if cmpB 16 a b (sg w.toNat a) (sg w.toNat b) then 1 else 0) := rfl
  cases hq : cmpB 16 a b (sg w.toNat a) (sg w.toNat b)
  all_goals
    rw [hq] at cc
    have e3 := Lib.hid hq
    clear hq
    go_enter Try.func75, Try.ntmps75
    go_wp2_with (go_at_call 88; refine (cc _).mono ?_; rintro e w' ⟨rfl, rfl⟩)
    go_ret2
    exact ⟨ret_two (by rw [e2.out, e3.out]; rfl) rfl, 0, rfl⟩

theorem plain_17 (w a b : Int) (wd : World) (h1 : 1 ≤ w) (h2 : w ≤ 64) (ha : 0 ≤ a) (ha' : a < pw w.toNat) (hb : 0 ≤ b) (hb' : b < pw w.toNat) :
    Calls Try.prog 75 #[.int .i64 17, .int .i64 w, .int .u64 a, .int .u64 b] wd fun e w' => e = .returned (.tuple #[.int .u64 (plR w.toNat 17 a b), .int .i64 (plE w.toNat 17 a b)]) ∧ ∃ n, w' = wd.drewN n := by
  have ea : sgn w a = sg w.toNat a := by rw [sgn_in _ h1 h2, Int.emod_eq_of_lt ha ha']
  have eb : sgn w b = sg w.toNat b := by rw [sgn_in _ h1 h2, Int.emod_eq_of_lt hb hb']
  have cc : ∀ W, _ := fun W => holds_any 17 w a b W (by omega)
  rw [ea, eb] at cc
  clear ea eb ha ha' hb hb'
  have e2 : Hid (plR w.toNat 17 a b = if cmpB 17 a b (sg w.toNat a) (sg w.toNat b) then 1 else 0) := rfl
  cases hq : cmpB 17 a b (sg w.toNat a) (sg w.toNat b)
  all_goals
    rw [hq] at cc
    have e3 := Lib.hid hq
    clear hq
    go_enter Try.func75, Try.ntmps75
    go_wp2_with (go_at_call 88; refine (cc _).mono ?_; rintro e w' ⟨rfl, rfl⟩)
    go_ret2
    exact ⟨ret_two (by rw [e2.out, e3.out]; rfl) rfl, 0, rfl⟩

theorem plain_18 (w a b : Int) (wd : World) (h1 : 1 ≤ w) (h2 : w ≤ 64) (ha : 0 ≤ a) (ha' : a < pw w.toNat) (hb : 0 ≤ b) (hb' : b < pw w.toNat) :
    Calls Try.prog 75 #[.int .i64 18, .int .i64 w, .int .u64 a, .int .u64 b] wd fun e w' => e = .returned (.tuple #[.int .u64 (plR w.toNat 18 a b), .int .i64 (plE w.toNat 18 a b)]) ∧ ∃ n, w' = wd.drewN n := by
  have ea : sgn w a = sg w.toNat a := by rw [sgn_in _ h1 h2, Int.emod_eq_of_lt ha ha']
  have eb : sgn w b = sg w.toNat b := by rw [sgn_in _ h1 h2, Int.emod_eq_of_lt hb hb']
  have cc : ∀ W, _ := fun W => holds_any 18 w a b W (by omega)
  rw [ea, eb] at cc
  clear ea eb ha ha' hb hb'
  have e2 : Hid (plR w.toNat 18 a b = if cmpB 18 a b (sg w.toNat a) (sg w.toNat b) then 1 else 0) := rfl
  cases hq : cmpB 18 a b (sg w.toNat a) (sg w.toNat b)
  all_goals
    rw [hq] at cc
    have e3 := Lib.hid hq
    clear hq
    go_enter Try.func75, Try.ntmps75
    go_wp2_with (go_at_call 88; refine (cc _).mono ?_; rintro e w' ⟨rfl, rfl⟩)
    go_ret2
    exact ⟨ret_two (by rw [e2.out, e3.out]; rfl) rfl, 0, rfl⟩

theorem plain_19 (w a b : Int) (wd : World) (h1 : 1 ≤ w) (h2 : w ≤ 64) (ha : 0 ≤ a) (ha' : a < pw w.toNat) (hb : 0 ≤ b) (hb' : b < pw w.toNat) :
    Calls Try.prog 75 #[.int .i64 19, .int .i64 w, .int .u64 a, .int .u64 b] wd fun e w' => e = .returned (.tuple #[.int .u64 (plR w.toNat 19 a b), .int .i64 (plE w.toNat 19 a b)]) ∧ ∃ n, w' = wd.drewN n := by
  have ea : sgn w a = sg w.toNat a := by rw [sgn_in _ h1 h2, Int.emod_eq_of_lt ha ha']
  have eb : sgn w b = sg w.toNat b := by rw [sgn_in _ h1 h2, Int.emod_eq_of_lt hb hb']
  have cc : ∀ W, _ := fun W => holds_any 19 w a b W (by omega)
  rw [ea, eb] at cc
  clear ea eb ha ha' hb hb'
  have e2 : Hid (plR w.toNat 19 a b = if cmpB 19 a b (sg w.toNat a) (sg w.toNat b) then 1 else 0) := rfl
  cases hq : cmpB 19 a b (sg w.toNat a) (sg w.toNat b)
  all_goals
    rw [hq] at cc
    have e3 := Lib.hid hq
    clear hq
    go_enter Try.func75, Try.ntmps75
    go_wp2_with (go_at_call 88; refine (cc _).mono ?_; rintro e w' ⟨rfl, rfl⟩)
    go_ret2
    exact ⟨ret_two (by rw [e2.out, e3.out]; rfl) rfl, 0, rfl⟩

end Go.Proofs.Ytpjfkmaceaikbaa
