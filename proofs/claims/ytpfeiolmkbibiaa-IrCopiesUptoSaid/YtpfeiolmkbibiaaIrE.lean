/- What any instruction makes: package ir, and the document's answers; the document's Calm. -/
import Derived.Test.YtpfeiolmkbibiaaIrD
namespace Go.Proofs.Ytpfeiolmkbibiaa
open Go.RowKit
set_option linter.unusedVariables false
set_option linter.unusedSimpArgs false

theorem res_cases (op : Int) : op < 1 ∨ (1 ≤ op ∧ op ≤ 13) ∨ (14 ≤ op ∧ op ≤ 19) ∨ (20 ≤ op ∧ op ≤ 25) ∨ op = 26 ∨ op = 27 ∨ op = 28 ∨ op = 29 ∨ op = 30 ∨ (31 ≤ op ∧ op ≤ 34) ∨ 34 < op := by omega
set_option maxHeartbeats 1000000 in
theorem Result_any (op rg ty n fl : Int) (ap tp : Option Addr) (al ac tl tc : Nat) (W : World) :
    Calls Try.prog 11 #[.agg #[.int .i64 op, .int .i64 rg, .int .i64 ty, .int .i64 n, .int .i64 fl, .slice ap al ac, .slice tp tl tc]] W fun e w' =>
      e = .returned (.int .i64 (resV op ty)) ∧ w' = W.alloc (.cells #[.int .i64 op, .int .i64 rg, .int .i64 ty, .int .i64 n, .int .i64 fl, .slice ap al ac, .slice tp tl tc] 25) := by
  rcases res_cases op with h | ⟨h, h'⟩ | ⟨h, h'⟩ | ⟨h, h'⟩ | rfl | rfl | rfl | rfl | rfl | ⟨h, h'⟩ | h
  · have hR : resV op ty = 0 := by unfold resV; (repeat' split) <;> first | rfl | (exfalso; omega)
    rw [hR]
    clear hR
    have e26 : (op == 26) = false := by simpa using (show ¬ op = 26 by omega)
    have e28 : (op == 28) = false := by simpa using (show ¬ op = 28 by omega)
    have e29 : (op == 29) = false := by simpa using (show ¬ op = 29 by omega)
    have hE : endsB op = false := by unfold endsB; simp; omega
    have ce := Ends_any op
    rw [hE] at ce
    clear hE
    go_enter Try.func11, Try.ntmps11
    go_wp2_with ((with_reducible refine (ce _).mono ?_); rintro e w' ⟨rfl, rfl⟩)
    go_ret
    exact ⟨rfl, rfl⟩
  · have hR : resV op ty = ty := by unfold resV; (repeat' split) <;> first | rfl | (exfalso; omega)
    rw [hR]
    clear hR
    have e26 : (op == 26) = false := by simpa using (show ¬ op = 26 by omega)
    have e28 : (op == 28) = false := by simpa using (show ¬ op = 28 by omega)
    have e29 : (op == 29) = false := by simpa using (show ¬ op = 29 by omega)
    have hE : endsB op = false := by unfold endsB; simp; omega
    have ce := Ends_any op
    rw [hE] at ce
    clear hE
    go_enter Try.func11, Try.ntmps11
    go_wp2_with ((with_reducible refine (ce _).mono ?_); rintro e w' ⟨rfl, rfl⟩)
    go_ret
    exact ⟨rfl, rfl⟩
  · have hR : resV op ty = 1 := by unfold resV; (repeat' split) <;> first | rfl | (exfalso; omega)
    rw [hR]
    clear hR
    have e26 : (op == 26) = false := by simpa using (show ¬ op = 26 by omega)
    have e28 : (op == 28) = false := by simpa using (show ¬ op = 28 by omega)
    have e29 : (op == 29) = false := by simpa using (show ¬ op = 29 by omega)
    have hE : endsB op = false := by unfold endsB; simp; omega
    have ce := Ends_any op
    rw [hE] at ce
    clear hE
    go_enter Try.func11, Try.ntmps11
    go_wp2_with ((with_reducible refine (ce _).mono ?_); rintro e w' ⟨rfl, rfl⟩)
    go_ret
    exact ⟨rfl, rfl⟩
  · have hR : resV op ty = ty := by unfold resV; (repeat' split) <;> first | rfl | (exfalso; omega)
    rw [hR]
    clear hR
    have e26 : (op == 26) = false := by simpa using (show ¬ op = 26 by omega)
    have e28 : (op == 28) = false := by simpa using (show ¬ op = 28 by omega)
    have e29 : (op == 29) = false := by simpa using (show ¬ op = 29 by omega)
    have hE : endsB op = false := by unfold endsB; simp; omega
    have ce := Ends_any op
    rw [hE] at ce
    clear hE
    go_enter Try.func11, Try.ntmps11
    go_wp2_with ((with_reducible refine (ce _).mono ?_); rintro e w' ⟨rfl, rfl⟩)
    go_ret
    exact ⟨rfl, rfl⟩
  · have hR : resV 26 ty = 65 := rfl
    rw [hR]
    clear hR
    have ce : ∀ W, Calls Try.prog 13 #[.int .i64 26] W fun e w' => e = .returned (.bool false) ∧ W = w' := Ends_any 26
    go_enter Try.func11, Try.ntmps11
    go_wp2_with ((with_reducible refine (ce _).mono ?_); rintro e w' ⟨rfl, rfl⟩)
    go_ret
    exact ⟨rfl, rfl⟩
  · have hR : resV 27 ty = ty := rfl
    rw [hR]
    clear hR
    have ce : ∀ W, Calls Try.prog 13 #[.int .i64 27] W fun e w' => e = .returned (.bool false) ∧ W = w' := Ends_any 27
    go_enter Try.func11, Try.ntmps11
    go_wp2_with ((with_reducible refine (ce _).mono ?_); rintro e w' ⟨rfl, rfl⟩)
    go_ret
    exact ⟨rfl, rfl⟩
  · have hR : resV 28 ty = 0 := rfl
    rw [hR]
    clear hR
    have ce : ∀ W, Calls Try.prog 13 #[.int .i64 28] W fun e w' => e = .returned (.bool false) ∧ W = w' := Ends_any 28
    go_enter Try.func11, Try.ntmps11
    go_wp2_with ((with_reducible refine (ce _).mono ?_); rintro e w' ⟨rfl, rfl⟩)
    go_ret
    exact ⟨rfl, rfl⟩
  · have hR : resV 29 ty = 65 := rfl
    rw [hR]
    clear hR
    have ce : ∀ W, Calls Try.prog 13 #[.int .i64 29] W fun e w' => e = .returned (.bool false) ∧ W = w' := Ends_any 29
    go_enter Try.func11, Try.ntmps11
    go_wp2_with ((with_reducible refine (ce _).mono ?_); rintro e w' ⟨rfl, rfl⟩)
    go_ret
    exact ⟨rfl, rfl⟩
  · have hR : resV 30 ty = ty := rfl
    rw [hR]
    clear hR
    have ce : ∀ W, Calls Try.prog 13 #[.int .i64 30] W fun e w' => e = .returned (.bool false) ∧ W = w' := Ends_any 30
    go_enter Try.func11, Try.ntmps11
    go_wp2_with ((with_reducible refine (ce _).mono ?_); rintro e w' ⟨rfl, rfl⟩)
    go_ret
    exact ⟨rfl, rfl⟩
  · have hR : resV op ty = 0 := by unfold resV; (repeat' split) <;> first | rfl | (exfalso; omega)
    rw [hR]
    clear hR
    have e26 : (op == 26) = false := by simpa using (show ¬ op = 26 by omega)
    have e28 : (op == 28) = false := by simpa using (show ¬ op = 28 by omega)
    have e29 : (op == 29) = false := by simpa using (show ¬ op = 29 by omega)
    have hE : endsB op = true := by unfold endsB; simp; omega
    have ce := Ends_any op
    rw [hE] at ce
    clear hE
    go_enter Try.func11, Try.ntmps11
    go_wp2_with ((with_reducible refine (ce _).mono ?_); rintro e w' ⟨rfl, rfl⟩)
    go_ret
    exact ⟨rfl, rfl⟩
  · have hR : resV op ty = 0 := by unfold resV; (repeat' split) <;> first | rfl | (exfalso; omega)
    rw [hR]
    clear hR
    have e26 : (op == 26) = false := by simpa using (show ¬ op = 26 by omega)
    have e28 : (op == 28) = false := by simpa using (show ¬ op = 28 by omega)
    have e29 : (op == 29) = false := by simpa using (show ¬ op = 29 by omega)
    have hE : endsB op = false := by unfold endsB; simp; omega
    have ce := Ends_any op
    rw [hE] at ce
    clear hE
    go_enter Try.func11, Try.ntmps11
    go_wp2_with ((with_reducible refine (ce _).mono ?_); rintro e w' ⟨rfl, rfl⟩)
    go_ret
    exact ⟨rfl, rfl⟩
set_option maxHeartbeats 1000000 in
theorem rResult_any (op rg ty n fl : Int) (ap tp : Option Addr) (al ac tl tc : Nat) (W : World) :
    Calls Try.prog 12 #[.agg #[.int .i64 op, .int .i64 rg, .int .i64 ty, .int .i64 n, .int .i64 fl, .slice ap al ac, .slice tp tl tc]] W fun e w' =>
      e = .returned (.int .i64 (resV op ty)) ∧ w' = W.alloc (.cells #[.int .i64 op, .int .i64 rg, .int .i64 ty, .int .i64 n, .int .i64 fl, .slice ap al ac, .slice tp tl tc] 25) := by
  rcases res_cases op with h | ⟨h, h'⟩ | ⟨h, h'⟩ | ⟨h, h'⟩ | rfl | rfl | rfl | rfl | rfl | ⟨h, h'⟩ | h
  · have hR : resV op ty = 0 := by unfold resV; (repeat' split) <;> first | rfl | (exfalso; omega)
    rw [hR]
    clear hR
    have e14 : (op == 14) = false := by simpa using (show ¬ op = 14 by omega)
    have e15 : (op == 15) = false := by simpa using (show ¬ op = 15 by omega)
    have e16 : (op == 16) = false := by simpa using (show ¬ op = 16 by omega)
    have e17 : (op == 17) = false := by simpa using (show ¬ op = 17 by omega)
    have e18 : (op == 18) = false := by simpa using (show ¬ op = 18 by omega)
    have e19 : (op == 19) = false := by simpa using (show ¬ op = 19 by omega)
    have e26 : (op == 26) = false := by simpa using (show ¬ op = 26 by omega)
    have e28 : (op == 28) = false := by simpa using (show ¬ op = 28 by omega)
    have e29 : (op == 29) = false := by simpa using (show ¬ op = 29 by omega)
    go_enter Try.func12, Try.ntmps12
    go_wp2
    go_ret
    exact ⟨rfl, rfl⟩
  · have hR : resV op ty = ty := by unfold resV; (repeat' split) <;> first | rfl | (exfalso; omega)
    rw [hR]
    clear hR
    have e14 : (op == 14) = false := by simpa using (show ¬ op = 14 by omega)
    have e15 : (op == 15) = false := by simpa using (show ¬ op = 15 by omega)
    have e16 : (op == 16) = false := by simpa using (show ¬ op = 16 by omega)
    have e17 : (op == 17) = false := by simpa using (show ¬ op = 17 by omega)
    have e18 : (op == 18) = false := by simpa using (show ¬ op = 18 by omega)
    have e19 : (op == 19) = false := by simpa using (show ¬ op = 19 by omega)
    have e26 : (op == 26) = false := by simpa using (show ¬ op = 26 by omega)
    have e28 : (op == 28) = false := by simpa using (show ¬ op = 28 by omega)
    have e29 : (op == 29) = false := by simpa using (show ¬ op = 29 by omega)
    go_enter Try.func12, Try.ntmps12
    go_wp2
    go_ret
    exact ⟨rfl, rfl⟩
  · have hR : resV op ty = 1 := by unfold resV; (repeat' split) <;> first | rfl | (exfalso; omega)
    rw [hR]
    clear hR
    have h6 : op = 14 ∨ op = 15 ∨ op = 16 ∨ op = 17 ∨ op = 18 ∨ op = 19 := by omega
    clear h h'
    rcases h6 with rfl | rfl | rfl | rfl | rfl | rfl
    all_goals
      go_enter Try.func12, Try.ntmps12
      go_wp2
      go_ret
      exact ⟨rfl, rfl⟩
  · have hR : resV op ty = ty := by unfold resV; (repeat' split) <;> first | rfl | (exfalso; omega)
    rw [hR]
    clear hR
    have e14 : (op == 14) = false := by simpa using (show ¬ op = 14 by omega)
    have e15 : (op == 15) = false := by simpa using (show ¬ op = 15 by omega)
    have e16 : (op == 16) = false := by simpa using (show ¬ op = 16 by omega)
    have e17 : (op == 17) = false := by simpa using (show ¬ op = 17 by omega)
    have e18 : (op == 18) = false := by simpa using (show ¬ op = 18 by omega)
    have e19 : (op == 19) = false := by simpa using (show ¬ op = 19 by omega)
    have e26 : (op == 26) = false := by simpa using (show ¬ op = 26 by omega)
    have e28 : (op == 28) = false := by simpa using (show ¬ op = 28 by omega)
    have e29 : (op == 29) = false := by simpa using (show ¬ op = 29 by omega)
    go_enter Try.func12, Try.ntmps12
    go_wp2
    go_ret
    exact ⟨rfl, rfl⟩
  · have hR : resV 26 ty = 65 := rfl
    rw [hR]
    clear hR
    go_enter Try.func12, Try.ntmps12
    go_wp2
    go_ret
    exact ⟨rfl, rfl⟩
  · have hR : resV 27 ty = ty := rfl
    rw [hR]
    clear hR
    go_enter Try.func12, Try.ntmps12
    go_wp2
    go_ret
    exact ⟨rfl, rfl⟩
  · have hR : resV 28 ty = 0 := rfl
    rw [hR]
    clear hR
    go_enter Try.func12, Try.ntmps12
    go_wp2
    go_ret
    exact ⟨rfl, rfl⟩
  · have hR : resV 29 ty = 65 := rfl
    rw [hR]
    clear hR
    go_enter Try.func12, Try.ntmps12
    go_wp2
    go_ret
    exact ⟨rfl, rfl⟩
  · have hR : resV 30 ty = ty := rfl
    rw [hR]
    clear hR
    go_enter Try.func12, Try.ntmps12
    go_wp2
    go_ret
    exact ⟨rfl, rfl⟩
  · have hR : resV op ty = 0 := by unfold resV; (repeat' split) <;> first | rfl | (exfalso; omega)
    rw [hR]
    clear hR
    have e14 : (op == 14) = false := by simpa using (show ¬ op = 14 by omega)
    have e15 : (op == 15) = false := by simpa using (show ¬ op = 15 by omega)
    have e16 : (op == 16) = false := by simpa using (show ¬ op = 16 by omega)
    have e17 : (op == 17) = false := by simpa using (show ¬ op = 17 by omega)
    have e18 : (op == 18) = false := by simpa using (show ¬ op = 18 by omega)
    have e19 : (op == 19) = false := by simpa using (show ¬ op = 19 by omega)
    have e26 : (op == 26) = false := by simpa using (show ¬ op = 26 by omega)
    have e28 : (op == 28) = false := by simpa using (show ¬ op = 28 by omega)
    have e29 : (op == 29) = false := by simpa using (show ¬ op = 29 by omega)
    go_enter Try.func12, Try.ntmps12
    go_wp2
    go_ret
    exact ⟨rfl, rfl⟩
  · have hR : resV op ty = 0 := by unfold resV; (repeat' split) <;> first | rfl | (exfalso; omega)
    rw [hR]
    clear hR
    have e14 : (op == 14) = false := by simpa using (show ¬ op = 14 by omega)
    have e15 : (op == 15) = false := by simpa using (show ¬ op = 15 by omega)
    have e16 : (op == 16) = false := by simpa using (show ¬ op = 16 by omega)
    have e17 : (op == 17) = false := by simpa using (show ¬ op = 17 by omega)
    have e18 : (op == 18) = false := by simpa using (show ¬ op = 18 by omega)
    have e19 : (op == 19) = false := by simpa using (show ¬ op = 19 by omega)
    have e26 : (op == 26) = false := by simpa using (show ¬ op = 26 by omega)
    have e28 : (op == 28) = false := by simpa using (show ¬ op = 28 by omega)
    have e29 : (op == 29) = false := by simpa using (show ¬ op = 29 by omega)
    go_enter Try.func12, Try.ntmps12
    go_wp2
    go_ret
    exact ⟨rfl, rfl⟩
def tab : Nat → Int
  | 0 => 4
  | 1 => 5
  | 2 => 6
  | 3 => 7
  | 4 => 25
  | 5 => 26
  | 6 => 27
  | _ => 28
set_option maxHeartbeats 2000000 in
theorem rCalm_any (op : Int) (W : World) : Calls Try.prog 18 #[.int .i64 op] W fun e w' => e = .returned (.bool (calmB op)) ∧ w' = W.alloc (.cells #[.int .i64 4, .int .i64 5, .int .i64 6, .int .i64 7, .int .i64 25, .int .i64 26, .int .i64 27, .int .i64 28] 3) := by
  go_enter Try.func18, Try.ntmps18
  go_wp2
  go_loopw [4] (fun t wr => ∃ k : Nat, k ≤ 8 ∧ t = .int .i64 k ∧ wr = W.alloc (.cells #[.int .i64 4, .int .i64 5, .int .i64 6, .int .i64 7, .int .i64 25, .int .i64 26, .int .i64 27, .int .i64 28] 3) ∧ ∀ j, j < k → op ≠ tab j) (fun t _ => 8 - (intOf t).toNat)
  case atStart => exact ⟨0, by omega, rfl, rfl, fun j h => absurd h (Nat.not_lt_zero j)⟩
  case round =>
    obtain ⟨k, hk, rfl, rfl, hne⟩ := hrel
    have HNE := Lib.hid hne
    clear hne
    by_cases hlt : k < 8
    · have h8 : k = 0 ∨ k = 1 ∨ k = 2 ∨ k = 3 ∨ k = 4 ∨ k = 5 ∨ k = 6 ∨ k = 7 := by omega
      clear hk hlt
      rcases h8 with rfl | rfl | rfl | rfl | rfl | rfl | rfl | rfl
      · by_cases e : op = 4
        · subst e
          go_wp2
          go_ret
          exact ⟨ret_bool rfl, rfl⟩
        · have e1 : ((4 : Int) == op) = false := by simpa using (show ¬ (4 : Int) = op by omega)
          have e2 : (op == 4) = false := by simpa using e
          have hn : ∀ j, j < 1 → op ≠ tab j := fun j hj => by
            by_cases hj2 : j = 0
            · subst hj2; exact e
            · exact HNE.out j (by omega)
          have HN := Lib.hid hn
          clear hn e
          go_wp2
          exact ⟨⟨1, by omega, by first | trivial | rfl, by first | trivial | rfl, HN.out⟩, by simp [intOf]⟩
      · by_cases e : op = 5
        · subst e
          go_wp2
          go_ret
          exact ⟨ret_bool rfl, rfl⟩
        · have e1 : ((5 : Int) == op) = false := by simpa using (show ¬ (5 : Int) = op by omega)
          have e2 : (op == 5) = false := by simpa using e
          have hn : ∀ j, j < 2 → op ≠ tab j := fun j hj => by
            by_cases hj2 : j = 1
            · subst hj2; exact e
            · exact HNE.out j (by omega)
          have HN := Lib.hid hn
          clear hn e
          go_wp2
          exact ⟨⟨2, by omega, by first | trivial | rfl, by first | trivial | rfl, HN.out⟩, by simp [intOf]⟩
      · by_cases e : op = 6
        · subst e
          go_wp2
          go_ret
          exact ⟨ret_bool rfl, rfl⟩
        · have e1 : ((6 : Int) == op) = false := by simpa using (show ¬ (6 : Int) = op by omega)
          have e2 : (op == 6) = false := by simpa using e
          have hn : ∀ j, j < 3 → op ≠ tab j := fun j hj => by
            by_cases hj2 : j = 2
            · subst hj2; exact e
            · exact HNE.out j (by omega)
          have HN := Lib.hid hn
          clear hn e
          go_wp2
          exact ⟨⟨3, by omega, by first | trivial | rfl, by first | trivial | rfl, HN.out⟩, by simp [intOf]⟩
      · by_cases e : op = 7
        · subst e
          go_wp2
          go_ret
          exact ⟨ret_bool rfl, rfl⟩
        · have e1 : ((7 : Int) == op) = false := by simpa using (show ¬ (7 : Int) = op by omega)
          have e2 : (op == 7) = false := by simpa using e
          have hn : ∀ j, j < 4 → op ≠ tab j := fun j hj => by
            by_cases hj2 : j = 3
            · subst hj2; exact e
            · exact HNE.out j (by omega)
          have HN := Lib.hid hn
          clear hn e
          go_wp2
          exact ⟨⟨4, by omega, by first | trivial | rfl, by first | trivial | rfl, HN.out⟩, by simp [intOf]⟩
      · by_cases e : op = 25
        · subst e
          go_wp2
          go_ret
          exact ⟨ret_bool rfl, rfl⟩
        · have e1 : ((25 : Int) == op) = false := by simpa using (show ¬ (25 : Int) = op by omega)
          have e2 : (op == 25) = false := by simpa using e
          have hn : ∀ j, j < 5 → op ≠ tab j := fun j hj => by
            by_cases hj2 : j = 4
            · subst hj2; exact e
            · exact HNE.out j (by omega)
          have HN := Lib.hid hn
          clear hn e
          go_wp2
          exact ⟨⟨5, by omega, by first | trivial | rfl, by first | trivial | rfl, HN.out⟩, by simp [intOf]⟩
      · by_cases e : op = 26
        · subst e
          go_wp2
          go_ret
          exact ⟨ret_bool rfl, rfl⟩
        · have e1 : ((26 : Int) == op) = false := by simpa using (show ¬ (26 : Int) = op by omega)
          have e2 : (op == 26) = false := by simpa using e
          have hn : ∀ j, j < 6 → op ≠ tab j := fun j hj => by
            by_cases hj2 : j = 5
            · subst hj2; exact e
            · exact HNE.out j (by omega)
          have HN := Lib.hid hn
          clear hn e
          go_wp2
          exact ⟨⟨6, by omega, by first | trivial | rfl, by first | trivial | rfl, HN.out⟩, by simp [intOf]⟩
      · by_cases e : op = 27
        · subst e
          go_wp2
          go_ret
          exact ⟨ret_bool rfl, rfl⟩
        · have e1 : ((27 : Int) == op) = false := by simpa using (show ¬ (27 : Int) = op by omega)
          have e2 : (op == 27) = false := by simpa using e
          have hn : ∀ j, j < 7 → op ≠ tab j := fun j hj => by
            by_cases hj2 : j = 6
            · subst hj2; exact e
            · exact HNE.out j (by omega)
          have HN := Lib.hid hn
          clear hn e
          go_wp2
          exact ⟨⟨7, by omega, by first | trivial | rfl, by first | trivial | rfl, HN.out⟩, by simp [intOf]⟩
      · by_cases e : op = 28
        · subst e
          go_wp2
          go_ret
          exact ⟨ret_bool rfl, rfl⟩
        · have e1 : ((28 : Int) == op) = false := by simpa using (show ¬ (28 : Int) = op by omega)
          have e2 : (op == 28) = false := by simpa using e
          have hn : ∀ j, j < 8 → op ≠ tab j := fun j hj => by
            by_cases hj2 : j = 7
            · subst hj2; exact e
            · exact HNE.out j (by omega)
          have HN := Lib.hid hn
          clear hn e
          go_wp2
          exact ⟨⟨8, by omega, by first | trivial | rfl, by first | trivial | rfl, HN.out⟩, by simp [intOf]⟩
    · obtain rfl : k = 8 := by omega
      have n0 := HNE.out 0 (by omega)
      have n1 := HNE.out 1 (by omega)
      have n2 := HNE.out 2 (by omega)
      have n3 := HNE.out 3 (by omega)
      have n4 := HNE.out 4 (by omega)
      have n5 := HNE.out 5 (by omega)
      have n6 := HNE.out 6 (by omega)
      have n7 := HNE.out 7 (by omega)
      simp only [tab] at n0 n1 n2 n3 n4 n5 n6 n7
      have hc : calmB op = (decide (1 ≤ op) && decide (op ≤ 29)) := by unfold calmB; rw [Bool.eq_iff_iff]; simp; omega
      have HC := Lib.hid hc
      clear hc n0 n1 n2 n3 n4 n5 n6 n7
      go_wp2
      all_goals go_ret
      all_goals exact ⟨ret_bool (by rw [HC.out]; first | (simp_all; done) | (simp_all; omega) | (simp; omega)), rfl⟩
end Go.Proofs.Ytpfeiolmkbibiaa
