/- Contracts of the document's answers (package latheref01): bit, bitwise, power, Times, quotient. -/
import Derived.Test.YthhdgfhndijmeaaRefC
import Derived.LoopN
import Derived.StillTailTactics
import Derived.Deep.RegionWith
namespace Go.Proofs.Ythhdgfhndijmeaa
open Go.RowKit
set_option linter.unusedVariables false
set_option linter.unusedSimpArgs false

/-- Of two bits. -/
def bitv (op x y : Int) : Int := if op = 8 then x * y else if op = 9 then x + y - x * y else (x + y) % 2
theorem bit_any (op x y : Int) (W : World) (ho : op = 8 ∨ op = 9 ∨ op = 10) (hx : x = 0 ∨ x = 1) (hy : y = 0 ∨ y = 1) :
    Calls Try.prog 49 #[.int .i64 op, .int .u64 x, .int .u64 y] W fun e w' => e = .returned (.int .u64 (bitv op x y)) ∧ W = w' := by
  rcases ho with rfl | rfl | rfl <;> rcases hx with rfl | rfl <;> rcases hy with rfl | rfl
  all_goals
    go_enter Try.func49, Try.ntmps49
    go_wp2
    go_ret
    exact ⟨ret_int rfl, rfl⟩

theorem power_any (n : Int) (W : World) (h1 : 0 ≤ n) (h2 : n ≤ 63) :
    Calls Try.prog 50 #[.int .u64 n] W fun e w' => e = .returned (bigOf (pw n.toNat)) ∧ Kept W w' := by
  have hb := build_lo
  go_enter Try.func50, Try.ntmps50
  go_wp2
  go_loopw [4] (fun i wr => ∃ k : Nat, (k : Int) ≤ n ∧ i = .int .u64 k ∧ wr = (W.alloc (.cells #[.int .u64 0, .int .u64 0, .bool false] 46)).alloc (.cells #[.int .u64 0, .int .u64 (pw k), .bool false] 46)) (fun i _ => (n - intOf i).toNat)
  case atStart => exact ⟨0, by omega, rfl, rfl⟩
  case round =>
    obtain ⟨k, hk, rfl, rfl⟩ := hrel
    by_cases hlt : (k : Int) < n
    · have p1 := pw_pos k
      have p2 := pw_le63 (n := k + 1) (by omega)
      have p3 := pw_succ k
      have p4 : pw k * 2 ≤ 9223372036854775808 := by omega
      have p5 : pw k * 2 = pw (k + 1) := by omega
      go_wp2
      go_roundw
      case rel => exact ⟨k + 1, by omega, by go_num, by rw [pw_succ k]⟩
      case measure => simp [intOf]; omega
    · obtain rfl : n = k := by omega
      go_wp2
      refine bodyPost_ret (v := .agg #[.int .u64 0, .int .u64 (pw k), .bool false]) (by simp [results, Try.results50, go_sem]) rfl ⟨?_, ((Kept.refl W).alloc _ _).alloc _ _⟩
      have p1 := pw_pos k
      have p2 := pw_le63 (n := k) (by omega)
      rw [← big_of (by omega), mag_pos (by omega)]
      exact congrArg Ending.returned (agg3 rfl rfl (by simp; omega))

/-- The first i bits of two numbers, taken together bit by bit. -/
def firstBits (op x y : Int) : Nat → Int
  | 0 => 0
  | i + 1 => firstBits op x y i + pw i * bitv op (x / pw i % 2) (y / pw i % 2)
theorem bitv_bd (op x y : Int) (ho : op = 8 ∨ op = 9 ∨ op = 10) (hx : x = 0 ∨ x = 1) (hy : y = 0 ∨ y = 1) : bitv op x y = 0 ∨ bitv op x y = 1 := by
  rcases ho with rfl | rfl | rfl <;> rcases hx with rfl | rfl <;> rcases hy with rfl | rfl <;> decide
theorem mod2 (z : Int) : z % 2 = 0 ∨ z % 2 = 1 := by omega
theorem firstBits_bd (op x y : Int) (ho : op = 8 ∨ op = 9 ∨ op = 10) (i : Nat) : 0 ≤ firstBits op x y i ∧ firstBits op x y i < pw i := by
  induction i with
  | zero => show (0 : Int) ≤ 0 ∧ (0 : Int) < pw 0; exact ⟨by decide, by decide⟩
  | succ i ih =>
    have hp := pw_pos i
    have hs := pw_succ i
    unfold firstBits
    rcases bitv_bd op _ _ ho (mod2 (x / pw i)) (mod2 (y / pw i)) with h | h <;> rw [h] <;> omega
theorem div_succ (x : Int) (i : Nat) : x / pw i / 2 = x / pw (i + 1) := by
  have hp := pw_pos i
  rw [pw_succ, Int.mul_comm, Int.ediv_ediv_of_nonneg (by omega)]

set_option maxHeartbeats 1000000 in
theorem bitwise_any (op w a b : Int) (W : World) (h1 : 1 ≤ w) (h2 : w ≤ 64) (ha : 0 ≤ a) (ha' : a ≤ 18446744073709551615) (hb : 0 ≤ b) (hb' : b ≤ 18446744073709551615) (ho : op = 8 ∨ op = 9 ∨ op = 10) :
    Calls Try.prog 32 #[.int .i64 op, .int .i64 w, .int .u64 a, .int .u64 b] W fun e w' => e = .returned (.int .u64 (firstBits op a b w.toNat)) ∧ W = w' := by
  have HO := Lib.hid ho
  clear ho
  go_enter Try.func32, Try.ntmps32
  go_wp2
  go_loop [2, 3, 9, 10, 11] (fun x y v u i => ∃ k : Nat, (k : Int) ≤ w ∧ i = .int .i64 k ∧ x = .int .u64 (a / pw k) ∧ y = .int .u64 (b / pw k) ∧ v = .int .u64 (firstBits op a b k) ∧ u = .int .u64 (pw k % 18446744073709551616)) (fun _ _ _ _ i => (w - intOf i).toNat)
  case atStart => exact ⟨0, by omega, rfl, by rw [pw_0]; simp, by rw [pw_0]; simp, rfl, rfl⟩
  case round =>
    obtain ⟨k, hk, rfl, rfl, rfl, rfl, rfl⟩ := hrel
    by_cases hlt : (k : Int) < w
    · have p1 := pw_pos k
      have p2 := pw_le63 (n := k) (by omega)
      have p6 := pw_le64 (n := k + 1) (by omega)
      have p3 := pw_succ k
      have x0 : 0 ≤ a / pw k := Int.ediv_nonneg ha (by omega)
      have x1 := Int.ediv_le_self (pw k) ha
      have y0 : 0 ≤ b / pw k := Int.ediv_nonneg hb (by omega)
      have y1 := Int.ediv_le_self (pw k) hb
      have hf := firstBits_bd op a b HO.out k
      have hf2 := firstBits_bd op a b HO.out (k + 1)
      have pe : pw k % 18446744073709551616 = pw k := Int.emod_eq_of_lt (by omega) (by omega)
      have cb := fun W => bit_any op (a / pw k % 2) (b / pw k % 2) W HO.out (mod2 _) (mod2 _)
      have e1 := div_succ a k
      have e2 := div_succ b k
      have e3 : firstBits op a b (k + 1) = firstBits op a b k + pw k * bitv op (a / pw k % 2) (b / pw k % 2) := rfl
      have hbv := bitv_bd op (a / pw k % 2) (b / pw k % 2) HO.out (mod2 _) (mod2 _)
      rw [pe]
      have E1 := Lib.hid e1
      have E2 := Lib.hid e2
      have E3 := Lib.hid e3
      have E4 := Lib.hid p3
      clear e1 e2 pe
      rw [e3] at hf2
      clear e3
      generalize hq : pw k * bitv op (a / pw k % 2) (b / pw k % 2) = q at *
      have q0 : 0 ≤ q := by rcases hbv with h | h <;> rw [h] at hq <;> omega
      have hQ := Lib.hid hq
      have p7 : pw k * 2 = 2 * pw k := by omega
      clear p3 hbv
      go_wp2_with ((with_reducible refine (cb _).mono ?_); rintro e w' ⟨rfl, rfl⟩)
      go_round
      case rel => exact ⟨k + 1, by omega, by go_num, by rw [E1.out], by rw [E2.out], by rw [E3.out], by rw [E4.out, u64w]⟩
      case measure => simp [intOf]; omega
    · obtain rfl : w = k := by omega
      go_wp2
      go_ret
      exact ⟨rfl, rfl⟩
end Go.Proofs.Ythhdgfhndijmeaa
