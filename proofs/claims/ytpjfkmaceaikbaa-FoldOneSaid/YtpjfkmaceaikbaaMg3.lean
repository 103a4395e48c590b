/- Several texts in one: RefC, RefD, RefE, RefF, RefG, RefH. -/
import Derived.LoopN
import Derived.StillTailTactics
import Derived.Deep.RegionWith
import Derived.Deep.RegionHeld3
import Derived.Deep.DeepCutAuto
import Derived.Test.YtpjfkmaceaikbaaMg2
namespace Go.Proofs.Ytpjfkmaceaikbaa
open Go.RowKit
set_option linter.unusedVariables false
set_option linter.unusedSimpArgs false

/-- A whole number of less than twice 64 bits as the document's answers hold it. -/
def bigOf (z : Int) : Value := .agg #[.int .u64 (mag z / 18446744073709551616), .int .u64 (mag z % 18446744073709551616), .bool (decide (z < 0))]
/-- Is its size one of twice 64 bits? -/
def fit128 (z : Int) : Prop := -340282366920938463463374607431768211456 < z ∧ z < 340282366920938463463374607431768211456
theorem agg3 {a b c d : Int} {p q : Bool} (h1 : a = c) (h2 : b = d) (h3 : p = q) : Value.agg #[.int .u64 a, .int .u64 b, .bool p] = .agg #[.int .u64 c, .int .u64 d, .bool q] := by rw [h1, h2, h3]
theorem big_of {z : Int} (h : -18446744073709551616 < z ∧ z < 18446744073709551616) : big 0 (mag z) (decide (z < 0)) = bigOf z := by
  unfold big bigOf mag
  split <;> exact agg3 (by omega) (by omega) rfl
theorem mag_neg {z : Int} (h : z < 0) : mag z = -z := by rw [mag, if_pos h]
theorem mag_pos {z : Int} (h : ¬ z < 0) : mag z = z := by rw [mag, if_neg h]

theorem Minus_of (z : Int) : Makes 84 #[bigOf z] (bigOf (-z)) := by
  intro W
  refine (Minus_any _ _ _ W).mono fun e w' ⟨he, hw⟩ => ⟨?_, hw⟩
  rw [he]
  refine congrArg Ending.returned (agg3 ?_ ?_ ?_)
  · unfold mag; split <;> split <;> omega
  · unfold mag; split <;> split <;> omega
  · by_cases h : z < 0
    · rw [Bool.eq_iff_iff]; simp [h]; omega
    · rw [mag_pos h, Bool.eq_iff_iff]; simp [h]; omega

theorem Plus_of (x y : Int) (hx : fit128 x) (hy : fit128 y) (hs : fit128 (x + y)) : Makes 83 #[bigOf x, bigOf y] (bigOf (x + y)) := by
  unfold fit128 at hx hy hs
  intro W
  by_cases h1 : x < 0 <;> by_cases h2 : y < 0
  · have d1 : decide (x < 0) = true := by simpa using h1
    have d2 : decide (y < 0) = true := by simpa using h2
    have h3 : x + y < 0 := by omega
    have d3 : decide (x + y < 0) = true := by simpa using h3
    unfold bigOf
    rw [mag_neg h1, mag_neg h2, mag_neg h3, d1, d2, d3]
    refine (Plus_same _ _ _ _ _ W (by omega) (by omega) (by omega) (by omega) (by omega) (by omega) (by omega)).mono fun e w' ⟨he, hw⟩ => ⟨?_, hw⟩
    rw [he]
    refine congrArg Ending.returned (agg3 ?_ ?_ rfl)
    · split <;> omega
    · split <;> omega
  · have d1 : decide (x < 0) = true := by simpa using h1
    have d2 : decide (y < 0) = false := by simpa using h2
    have m3 : mag (x + y) = if -x < y then y - (-x) else -x - (y) := by unfold mag; split <;> split <;> omega
    unfold bigOf
    rw [mag_neg h1, mag_pos h2, d1, d2, m3]
    by_cases hl : -x < y
    · rw [if_pos hl]
      by_cases hk : ((y) % 18446744073709551616) < ((-x) % 18446744073709551616)
      · refine (Plus_lct _ _ _ _ (decide (x + y < 0)) W (by omega) (by omega) (by omega) (by omega) (by omega) (by omega) (by omega) (by omega) (by omega) (by omega) (by simp only [decide_eq_true_eq]; omega) (by rw [Bool.false_and]; exact (decide_eq_false (by omega)).symm)).mono fun e w' ⟨he, hw⟩ => ⟨?_, hw⟩
        rw [he]
        exact congrArg Ending.returned (agg3 (by omega) (by omega) rfl)
      · refine (Plus_lnt _ _ _ _ (decide (x + y < 0)) W (by omega) (by omega) (by omega) (by omega) (by omega) (by omega) (by omega) (by omega) (by omega) (by omega) (by simp only [decide_eq_true_eq]; omega) (by rw [Bool.false_and]; exact (decide_eq_false (by omega)).symm)).mono fun e w' ⟨he, hw⟩ => ⟨?_, hw⟩
        rw [he]
        exact congrArg Ending.returned (agg3 (by omega) (by omega) rfl)
    · rw [if_neg hl]
      by_cases hk : ((-x) % 18446744073709551616) < ((y) % 18446744073709551616)
      · refine (Plus_gct _ _ _ _ (decide (x + y < 0)) W (by omega) (by omega) (by omega) (by omega) (by omega) (by omega) (by omega) (by omega) (by omega) (by omega) (by simp only [decide_eq_false_iff_not]; omega) (by rw [Bool.eq_iff_iff]; simp only [Bool.and_eq_true, Bool.not_eq_true', Bool.and_eq_false_iff, beq_eq_false_iff_ne, decide_eq_true_eq, ne_eq, true_and, Bool.false_eq_true, false_and]; omega)).mono fun e w' ⟨he, hw⟩ => ⟨?_, hw⟩
        rw [he]
        exact congrArg Ending.returned (agg3 (by omega) (by omega) rfl)
      · refine (Plus_gnt _ _ _ _ (decide (x + y < 0)) W (by omega) (by omega) (by omega) (by omega) (by omega) (by omega) (by omega) (by omega) (by omega) (by omega) (by simp only [decide_eq_false_iff_not]; omega) (by rw [Bool.eq_iff_iff]; simp only [Bool.and_eq_true, Bool.not_eq_true', Bool.and_eq_false_iff, beq_eq_false_iff_ne, decide_eq_true_eq, ne_eq, true_and, Bool.false_eq_true, false_and]; omega)).mono fun e w' ⟨he, hw⟩ => ⟨?_, hw⟩
        rw [he]
        exact congrArg Ending.returned (agg3 (by omega) (by omega) rfl)
  · have d1 : decide (x < 0) = false := by simpa using h1
    have d2 : decide (y < 0) = true := by simpa using h2
    have m3 : mag (x + y) = if x < -y then -y - (x) else x - (-y) := by unfold mag; split <;> split <;> omega
    unfold bigOf
    rw [mag_pos h1, mag_neg h2, d1, d2, m3]
    by_cases hl : x < -y
    · rw [if_pos hl]
      by_cases hk : ((-y) % 18446744073709551616) < ((x) % 18446744073709551616)
      · refine (Plus_lcf _ _ _ _ (decide (x + y < 0)) W (by omega) (by omega) (by omega) (by omega) (by omega) (by omega) (by omega) (by omega) (by omega) (by omega) (by simp only [decide_eq_true_eq]; omega) (by rw [Bool.eq_iff_iff]; simp only [Bool.and_eq_true, Bool.not_eq_true', Bool.and_eq_false_iff, beq_eq_false_iff_ne, decide_eq_true_eq, ne_eq, true_and, Bool.false_eq_true, false_and]; omega)).mono fun e w' ⟨he, hw⟩ => ⟨?_, hw⟩
        rw [he]
        exact congrArg Ending.returned (agg3 (by omega) (by omega) rfl)
      · refine (Plus_lnf _ _ _ _ (decide (x + y < 0)) W (by omega) (by omega) (by omega) (by omega) (by omega) (by omega) (by omega) (by omega) (by omega) (by omega) (by simp only [decide_eq_true_eq]; omega) (by rw [Bool.eq_iff_iff]; simp only [Bool.and_eq_true, Bool.not_eq_true', Bool.and_eq_false_iff, beq_eq_false_iff_ne, decide_eq_true_eq, ne_eq, true_and, Bool.false_eq_true, false_and]; omega)).mono fun e w' ⟨he, hw⟩ => ⟨?_, hw⟩
        rw [he]
        exact congrArg Ending.returned (agg3 (by omega) (by omega) rfl)
    · rw [if_neg hl]
      by_cases hk : ((x) % 18446744073709551616) < ((-y) % 18446744073709551616)
      · refine (Plus_gcf _ _ _ _ (decide (x + y < 0)) W (by omega) (by omega) (by omega) (by omega) (by omega) (by omega) (by omega) (by omega) (by omega) (by omega) (by simp only [decide_eq_false_iff_not]; omega) (by rw [Bool.false_and]; exact (decide_eq_false (by omega)).symm)).mono fun e w' ⟨he, hw⟩ => ⟨?_, hw⟩
        rw [he]
        exact congrArg Ending.returned (agg3 (by omega) (by omega) rfl)
      · refine (Plus_gnf _ _ _ _ (decide (x + y < 0)) W (by omega) (by omega) (by omega) (by omega) (by omega) (by omega) (by omega) (by omega) (by omega) (by omega) (by simp only [decide_eq_false_iff_not]; omega) (by rw [Bool.false_and]; exact (decide_eq_false (by omega)).symm)).mono fun e w' ⟨he, hw⟩ => ⟨?_, hw⟩
        rw [he]
        exact congrArg Ending.returned (agg3 (by omega) (by omega) rfl)
  · have d1 : decide (x < 0) = false := by simpa using h1
    have d2 : decide (y < 0) = false := by simpa using h2
    have h3 : ¬ x + y < 0 := by omega
    have d3 : decide (x + y < 0) = false := by simpa using h3
    unfold bigOf
    rw [mag_pos h1, mag_pos h2, mag_pos h3, d1, d2, d3]
    refine (Plus_same _ _ _ _ _ W (by omega) (by omega) (by omega) (by omega) (by omega) (by omega) (by omega)).mono fun e w' ⟨he, hw⟩ => ⟨?_, hw⟩
    rw [he]
    refine congrArg Ending.returned (agg3 ?_ ?_ rfl)
    · split <;> omega
    · split <;> omega

theorem With_of (w v : Int) (h1 : 1 ≤ w) (h2 : w ≤ 64) (hv : 0 ≤ v) (hv' : v ≤ 18446744073709551615) : Makes 53 #[.int .i64 w, .int .u64 v] (bigOf (sgn w v)) := by
  have := sgn_bd w v
  exact (With_any w v h1 h2 hv hv').as (big_of (by omega))
theorem Plain_of (w v : Int) (h1 : 1 ≤ w) (h2 : w ≤ 64) (hv : 0 ≤ v) (hv' : v ≤ 18446744073709551615) : Makes 79 #[.int .i64 w, .int .u64 v] (bigOf (v % pw w.toNat)) := by
  have hm := mod_u64 v h1 h2
  refine (Plain_any w v h1 h2 hv hv').as ?_
  rw [← big_of (by omega), mag_pos (by omega)]
  exact agg3 rfl rfl (by simp; omega)
theorem Wrapped_of (w z : Int) (h1 : 1 ≤ w) (h2 : w ≤ 64) : Makes 52 #[.int .i64 w, bigOf z] (.int .u64 (z % pw w.toNat)) := by
  refine (Wrapped_any w _ _ _ h1 h2 (by omega) (by omega)).as (one_eq ?_)
  have hd := pw_dvd64 (n := w.toNat) (by omega)
  have key : ∀ a b : Int, (∃ q, a = b + 18446744073709551616 * q) → a % pw w.toNat = b % pw w.toNat := by
    rintro a b ⟨q, rfl⟩
    rw [← hd, Int.mul_assoc, Int.add_mul_emod_self_left]
  apply key
  by_cases h : z < 0
  · rw [mag_neg h]; simp only [h, decide_true, if_true]
    exact ⟨(-z) / 18446744073709551616, by omega⟩
  · rw [mag_pos h]; simp only [h, decide_false, Bool.false_eq_true, if_false]
    exact ⟨-(z / 18446744073709551616), by omega⟩
/-- Of two bits. -/
def bitv (op x y : Int) : Int := if op = 8 then x * y else if op = 9 then x + y - x * y else (x + y) % 2
theorem bit_any (op x y : Int) (W : World) (ho : op = 8 ∨ op = 9 ∨ op = 10) (hx : x = 0 ∨ x = 1) (hy : y = 0 ∨ y = 1) :
    Calls Try.prog 81 #[.int .i64 op, .int .u64 x, .int .u64 y] W fun e w' => e = .returned (.int .u64 (bitv op x y)) ∧ W = w' := by
  rcases ho with rfl | rfl | rfl <;> rcases hx with rfl | rfl <;> rcases hy with rfl | rfl
  all_goals
    go_enter Try.func81, Try.ntmps81
    go_wp2
    go_ret
    exact ⟨ret_int rfl, rfl⟩

theorem power_any (n : Int) (W : World) (h1 : 0 ≤ n) (h2 : n ≤ 63) :
    Calls Try.prog 82 #[.int .u64 n] W fun e w' => e = .returned (bigOf (pw n.toNat)) ∧ Kept W w' := by
  have hb := build_lo
  go_enter Try.func82, Try.ntmps82
  go_wp2
  go_loopw [4] (fun i wr => ∃ k : Nat, (k : Int) ≤ n ∧ i = .int .u64 k ∧ wr = (W.alloc (.cells #[.int .u64 0, .int .u64 0, .bool false] 68)).alloc (.cells #[.int .u64 0, .int .u64 (pw k), .bool false] 68)) (fun i _ => (n - intOf i).toNat)
  case atStart => exact ⟨0, by omega, rfl, rfl⟩
  case round =>
    obtain ⟨k, hk, rfl, rfl⟩ := hrel
    by_cases hlt : (k : Int) < n
    · have p1 := pw_pos k
      have p2 := pw_le63 (n := k + 1) (by omega)
      have p3 := pw_succ k
      have p4 : pw k * 2 ≤ 9223372036854775808 := by omega
      have p5 : pw k * 2 = pw (k + 1) := by omega
      go_wp2
      go_roundw
      case rel => exact ⟨k + 1, by omega, by go_num, by rw [pw_succ k]⟩
      case measure => simp [intOf]; omega
    · obtain rfl : n = k := by omega
      go_wp2
      refine bodyPost_ret (v := .agg #[.int .u64 0, .int .u64 (pw k), .bool false]) (by simp [results, Try.results82, go_sem]) rfl ⟨?_, ((Kept.refl W).alloc _ _).alloc _ _⟩
      have p1 := pw_pos k
      have p2 := pw_le63 (n := k) (by omega)
      rw [← big_of (by omega), mag_pos (by omega)]
      exact congrArg Ending.returned (agg3 rfl rfl (by simp; omega))

/-- The first i bits of two numbers, taken together bit by bit. -/
def firstBits (op x y : Int) : Nat → Int
  | 0 => 0
  | i + 1 => firstBits op x y i + pw i * bitv op (x / pw i % 2) (y / pw i % 2)
theorem bitv_bd (op x y : Int) (ho : op = 8 ∨ op = 9 ∨ op = 10) (hx : x = 0 ∨ x = 1) (hy : y = 0 ∨ y = 1) : bitv op x y = 0 ∨ bitv op x y = 1 := by
  rcases ho with rfl | rfl | rfl <;> rcases hx with rfl | rfl <;> rcases hy with rfl | rfl <;> decide
theorem mod2 (z : Int) : z % 2 = 0 ∨ z % 2 = 1 := by omega
theorem firstBits_bd (op x y : Int) (ho : op = 8 ∨ op = 9 ∨ op = 10) (i : Nat) : 0 ≤ firstBits op x y i ∧ firstBits op x y i < pw i := by
  induction i with
  | zero => show (0 : Int) ≤ 0 ∧ (0 : Int) < pw 0; exact ⟨by decide, by decide⟩
  | succ i ih =>
    have hp := pw_pos i
    have hs := pw_succ i
    unfold firstBits
    rcases bitv_bd op _ _ ho (mod2 (x / pw i)) (mod2 (y / pw i)) with h | h <;> rw [h] <;> omega
theorem div_succ (x : Int) (i : Nat) : x / pw i / 2 = x / pw (i + 1) := by
  have hp := pw_pos i
  rw [pw_succ, Int.mul_comm, Int.ediv_ediv_of_nonneg (by omega)]

set_option maxHeartbeats 1000000 in
theorem bitwise_any (op w a b : Int) (W : World) (h1 : 1 ≤ w) (h2 : w ≤ 64) (ha : 0 ≤ a) (ha' : a ≤ 18446744073709551615) (hb : 0 ≤ b) (hb' : b ≤ 18446744073709551615) (ho : op = 8 ∨ op = 9 ∨ op = 10) :
    Calls Try.prog 72 #[.int .i64 op, .int .i64 w, .int .u64 a, .int .u64 b] W fun e w' => e = .returned (.int .u64 (firstBits op a b w.toNat)) ∧ W = w' := by
  have HO := Lib.hid ho
  clear ho
  go_enter Try.func72, Try.ntmps72
  go_wp2
  go_loop [2, 3, 9, 10, 11] (fun x y v u i => ∃ k : Nat, (k : Int) ≤ w ∧ i = .int .i64 k ∧ x = .int .u64 (a / pw k) ∧ y = .int .u64 (b / pw k) ∧ v = .int .u64 (firstBits op a b k) ∧ u = .int .u64 (pw k % 18446744073709551616)) (fun _ _ _ _ i => (w - intOf i).toNat)
  case atStart => exact ⟨0, by omega, rfl, by rw [pw_0]; simp, by rw [pw_0]; simp, rfl, rfl⟩
  case round =>
    obtain ⟨k, hk, rfl, rfl, rfl, rfl, rfl⟩ := hrel
    by_cases hlt : (k : Int) < w
    · have p1 := pw_pos k
      have p2 := pw_le63 (n := k) (by omega)
      have p6 := pw_le64 (n := k + 1) (by omega)
      have p3 := pw_succ k
      have x0 : 0 ≤ a / pw k := Int.ediv_nonneg ha (by omega)
      have x1 := Int.ediv_le_self (pw k) ha
      have y0 : 0 ≤ b / pw k := Int.ediv_nonneg hb (by omega)
      have y1 := Int.ediv_le_self (pw k) hb
      have hf := firstBits_bd op a b HO.out k
      have hf2 := firstBits_bd op a b HO.out (k + 1)
      have pe : pw k % 18446744073709551616 = pw k := Int.emod_eq_of_lt (by omega) (by omega)
      have cb := fun W => bit_any op (a / pw k % 2) (b / pw k % 2) W HO.out (mod2 _) (mod2 _)
      have e1 := div_succ a k
      have e2 := div_succ b k
      have e3 : firstBits op a b (k + 1) = firstBits op a b k + pw k * bitv op (a / pw k % 2) (b / pw k % 2) := rfl
      have hbv := bitv_bd op (a / pw k % 2) (b / pw k % 2) HO.out (mod2 _) (mod2 _)
      rw [pe]
      have E1 := Lib.hid e1
      have E2 := Lib.hid e2
      have E3 := Lib.hid e3
      have E4 := Lib.hid p3
      clear e1 e2 pe
      rw [e3] at hf2
      clear e3
      generalize hq : pw k * bitv op (a / pw k % 2) (b / pw k % 2) = q at *
      have q0 : 0 ≤ q := by rcases hbv with h | h <;> rw [h] at hq <;> omega
      have hQ := Lib.hid hq
      have p7 : pw k * 2 = 2 * pw k := by omega
      clear p3 hbv
      go_wp2_with ((with_reducible refine (cb _).mono ?_); rintro e w' ⟨rfl, rfl⟩)
      go_round
      case rel => exact ⟨k + 1, by omega, by go_num, by rw [E1.out], by rw [E2.out], by rw [E3.out], by rw [E4.out, u64w]⟩
      case measure => simp [intOf]; omega
    · obtain rfl : w = k := by omega
      go_wp2
      go_ret
      exact ⟨rfl, rfl⟩
theorem Kept.of_drew {L w : World} (h : Kept L.drew w) : Kept L w := ((Kept.refl L).drewN 1).trans h
/-- A new block of three cells behind a call. -/
theorem met1 {L w1 : World} (A B C : Value) (h : Kept L w1) :
    w1.heap.size < (w1.alloc (.cells #[A, B, C] 68)).heap.size ∧ (w1.alloc (.cells #[A, B, C] 68)).cell? ⟨w1.heap.size, 0, none⟩ = some A ∧
      (w1.alloc (.cells #[A, B, C] 68)).cell? ⟨w1.heap.size, 1, none⟩ = some B ∧ (w1.alloc (.cells #[A, B, C] 68)).cell? ⟨w1.heap.size, 2, none⟩ = some C ∧ Kept L (w1.alloc (.cells #[A, B, C] 68)) := by
  refine ⟨by simp, ?_, ?_, ?_, h.alloc _ _⟩ <;> (rw [World.cell?_alloc_at _ _ _ _ rfl]; rfl)
/-- A block of three cells made ahead of a call, written behind it. -/
theorem met2 {L w1 : World} {n : Nat} (Z0 Z1 Z2 A B C : Value) (hn : n = L.heap.size) (h : Kept (L.alloc (.cells #[Z0, Z1, Z2] 68)).drew w1) :
    n < (((w1.setCell ⟨n, 0, none⟩ A).setCell ⟨n, 1, none⟩ B).setCell ⟨n, 2, none⟩ C).heap.size ∧ (((w1.setCell ⟨n, 0, none⟩ A).setCell ⟨n, 1, none⟩ B).setCell ⟨n, 2, none⟩ C).cell? ⟨n, 0, none⟩ = some A ∧
      (((w1.setCell ⟨n, 0, none⟩ A).setCell ⟨n, 1, none⟩ B).setCell ⟨n, 2, none⟩ C).cell? ⟨n, 1, none⟩ = some B ∧ (((w1.setCell ⟨n, 0, none⟩ A).setCell ⟨n, 1, none⟩ B).setCell ⟨n, 2, none⟩ C).cell? ⟨n, 2, none⟩ = some C ∧
      Kept L (((w1.setCell ⟨n, 0, none⟩ A).setCell ⟨n, 1, none⟩ B).setCell ⟨n, 2, none⟩ C) := by
  have h' := Kept.of_drew h
  have hs : n < w1.heap.size := by have := h'.1.size; simp at this; omega
  have e : ∀ i, w1.cell? ⟨n, i, none⟩ = (#[Z0, Z1, Z2] : Array Value)[i]? := fun i => by
    rw [(bcell h').1 _ _ (by simp; omega), World.cell?_alloc_at _ _ _ _ hn]
  have k : Kept L w1 := ((Kept.refl L).alloc _ _).trans h'
  have ne : ∀ i j : Nat, i ≠ j → (⟨n, i, none⟩ : Addr) ≠ ⟨n, j, none⟩ := fun i j h h2 => h (by injection h2)
  refine ⟨by simpa [World.setCell] using hs, ?_, ?_, ?_, ((k.setCell (by dsimp only; omega) _).setCell (by dsimp only; omega) _).setCell (by dsimp only; omega) _⟩
  · rw [World.cell?_setCell_other (h := ne 2 0 (by decide)), World.cell?_setCell_other (h := ne 1 0 (by decide)), World.cell?_setCell_same' _ _ _ (by rw [e]; rfl)]
  · rw [World.cell?_setCell_other (h := ne 2 1 (by decide)), World.cell?_setCell_same' _ _ _ (by rw [World.cell?_setCell_other (h := ne 0 1 (by decide)), e]; rfl)]
  · rw [World.cell?_setCell_same' _ _ _ (by rw [World.cell?_setCell_other (h := ne 1 2 (by decide)), World.cell?_setCell_other (h := ne 0 2 (by decide)), e]; rfl)]

set_option maxHeartbeats 3200000 in
theorem quotient_raw (a x c y : Int) (p q z1 z2 : Bool) (W : World) (hx : 0 ≤ x) (hx' : x ≤ 18446744073709551615) (hy : 1 ≤ y) (hy' : y ≤ 18446744073709551615)
    (c1 : ∀ W, Calls Try.prog 93 #[.agg #[.int .u64 0, .int .u64 (x / y), .bool (p != q)]] W fun e w' => e = .returned (.agg #[.int .u64 0, .int .u64 (x / y), .bool z1]) ∧ Kept W w')
    (c2 : ∀ W, Calls Try.prog 93 #[.agg #[.int .u64 0, .int .u64 (x % y), .bool p]] W fun e w' => e = .returned (.agg #[.int .u64 0, .int .u64 (x % y), .bool z2]) ∧ Kept W w') :
    Calls Try.prog 80 #[.agg #[.int .u64 a, .int .u64 x, .bool p], .agg #[.int .u64 c, .int .u64 y, .bool q]] W fun e w' =>
      e = .returned (.tuple #[.agg #[.int .u64 0, .int .u64 (x / y), .bool z1], .agg #[.int .u64 0, .int .u64 (x % y), .bool z2]]) ∧ Kept W w' := by
  have hbu := build_lb
  have hy0 : ¬ y = 0 := by omega
  go_enter Try.func80, Try.ntmps80
  go_upto_region 1 with fail
  go_cut [6] (fun s6 wx => ∃ g : Nat, s6 = .pointer (some ⟨g, 0, none⟩) ∧ W.heap.size + 1 + 1 + 1 < g ∧ g < wx.heap.size ∧ wx.cell? ⟨g, 0, none⟩ = some (.int .u64 0) ∧ wx.cell? ⟨g, 1, none⟩ = some (.int .u64 (x / y)) ∧ wx.cell? ⟨g, 2, none⟩ = some (.bool z1) ∧
    Kept ((((W.alloc (.cells #[.int .u64 a, .int .u64 x, .bool p] 68)).alloc (.cells #[.int .u64 c, .int .u64 y, .bool q] 68)).alloc (.cells #[.int .u64 0, .int .u64 0, .bool false] 68)).alloc (.cells #[.int .u64 0, .int .u64 0, .bool false] 68)) wx)
  case first =>
    have hq1 : IntKind.u64.wrap (x.tdiv y) = x / y := IntWalk.u64_quo x y ⟨hx, by omega, hy⟩
    go_region_held3 (fun w' => w'.cell? ⟨W.heap.size, 1, none⟩ = some (.int .u64 x) ∧ w'.cell? ⟨W.heap.size, 2, none⟩ = some (.bool p) ∧ w'.cell? ⟨W.heap.size + 1, 1, none⟩ = some (.int .u64 y) ∧ w'.cell? ⟨W.heap.size + 1, 2, none⟩ = some (.bool q))
      (((try dsimp only); (repeat' apply And.intro) <;> (first | assumption | (rw [World.cell?_alloc_past _ _ _ (by omega)]; assumption) | (rw [World.cell?_setCell_far _ _ _ _ (by simp <;> omega)]; assumption) | (go_simp; done) | go_keep)))
      (first | (go_at_call 93; refine (c1 _).mono ?_; rintro e w1 ⟨rfl, hb1⟩
                have hz := hb1.1.size
                simp at hz
                obtain ⟨hc0, hf0⟩ := bcell hb1
                have f1 : w1.cell? ⟨W.heap.size, 1, none⟩ = some (.int .u64 x) := by rw [hc0 _ _ (by simp <;> omega)]; go_simp
                have f2 : w1.cell? ⟨W.heap.size, 2, none⟩ = some (.bool p) := by rw [hc0 _ _ (by simp <;> omega)]; go_simp
                have f3 : w1.cell? ⟨W.heap.size + 1, 1, none⟩ = some (.int .u64 y) := by rw [hc0 _ _ (by simp <;> omega)]; go_simp
                have f4 : w1.cell? ⟨W.heap.size + 1, 2, none⟩ = some (.bool q) := by rw [hc0 _ _ (by simp <;> omega)]; go_simp))
    all_goals (go_wp2_with fail; go_meet)
    · exact ⟨_, rfl, by omega, met1 _ _ _ (Kept.of_drew hb1)⟩
    · exact ⟨_, rfl, by omega, met2 _ _ _ _ _ _ (by simp) hb1⟩
  case rest =>
    obtain ⟨g, rfl, hg1, hg2, q0, q1, q2, hk⟩ := hcut
    obtain ⟨wo, rfl⟩ : ∃ wo : World, wo = wc := ⟨_, rfl⟩
    obtain ⟨hc, hf⟩ := bcell hk
    have f1 : wo.cell? ⟨W.heap.size, 1, none⟩ = some (.int .u64 x) := by rw [hc _ _ (by simp <;> omega)]; go_simp
    have f2 : wo.cell? ⟨W.heap.size, 2, none⟩ = some (.bool p) := by rw [hc _ _ (by simp <;> omega)]; go_simp
    have f3 : wo.cell? ⟨W.heap.size + 1, 1, none⟩ = some (.int .u64 y) := by rw [hc _ _ (by simp <;> omega)]; go_simp
    have sz := hk.1.size
    simp at sz
    clear hc hf
    go_upto_region 2 with fail
    go_cut [7] (fun s7 wx => ∃ g2 : Nat, s7 = .pointer (some ⟨g2, 0, none⟩) ∧ wo.heap.size ≤ g2 ∧ g2 < wx.heap.size ∧ wx.cell? ⟨g2, 0, none⟩ = some (.int .u64 0) ∧ wx.cell? ⟨g2, 1, none⟩ = some (.int .u64 (x % y)) ∧ wx.cell? ⟨g2, 2, none⟩ = some (.bool z2) ∧ Kept wo wx)
    case first =>
      have hq1 : x.tmod y = x % y := Int.tmod_eq_emod_of_nonneg hx
      go_region_held3 (fun w' => w'.cell? ⟨W.heap.size, 1, none⟩ = some (.int .u64 x) ∧ w'.cell? ⟨W.heap.size, 2, none⟩ = some (.bool p) ∧ w'.cell? ⟨W.heap.size + 1, 1, none⟩ = some (.int .u64 y))
        (((try dsimp only); (repeat' apply And.intro) <;> (first | assumption | (rw [World.cell?_alloc_past _ _ _ (by omega)]; assumption) | (rw [World.cell?_setCell_far _ _ _ _ (by simp <;> omega)]; assumption) | (go_simp; done) | go_keep)))
        (first | (go_at_call 93; refine (c2 _).mono ?_; rintro e w1 ⟨rfl, hb1⟩
                  have hz := hb1.1.size
                  simp at hz
                  obtain ⟨hc0, hf0⟩ := bcell hb1
                  have f1 : w1.cell? ⟨W.heap.size, 1, none⟩ = some (.int .u64 x) := by rw [hc0 _ _ (by simp <;> omega)]; go_simp
                  have f2 : w1.cell? ⟨W.heap.size, 2, none⟩ = some (.bool p) := by rw [hc0 _ _ (by simp <;> omega)]; go_simp
                  have f3 : w1.cell? ⟨W.heap.size + 1, 1, none⟩ = some (.int .u64 y) := by rw [hc0 _ _ (by simp <;> omega)]; go_simp))
      all_goals (go_wp2_with fail; go_meet)
      · exact ⟨_, rfl, by omega, met1 _ _ _ (Kept.of_drew hb1)⟩
      · exact ⟨_, rfl, by omega, met2 _ _ _ _ _ _ (by simp) hb1⟩
    case rest =>
      obtain ⟨g2, rfl, hg3, hg4, r0, r1, r2, hk2⟩ := hcut
      have t0 : wc.cell? ⟨g, 0, none⟩ = some (.int .u64 0) := by rw [(bcell hk2).1 _ _ hg2]; exact q0
      have t1 : wc.cell? ⟨g, 1, none⟩ = some (.int .u64 (x / y)) := by rw [(bcell hk2).1 _ _ hg2]; exact q1
      have t2 : wc.cell? ⟨g, 2, none⟩ = some (.bool z1) := by rw [(bcell hk2).1 _ _ hg2]; exact q2
      have hk3 := hk.trans hk2
      obtain ⟨hc, hf⟩ := bcell hk3
      have u0 : wc.cell? ⟨W.heap.size + 1 + 1, 0, none⟩ = some (.int .u64 0) := by rw [hc _ _ (by simp <;> omega)]; go_simp
      have u1 : wc.cell? ⟨W.heap.size + 1 + 1, 1, none⟩ = some (.int .u64 0) := by rw [hc _ _ (by simp <;> omega)]; go_simp
      have u2 : wc.cell? ⟨W.heap.size + 1 + 1, 2, none⟩ = some (.bool false) := by rw [hc _ _ (by simp <;> omega)]; go_simp
      have v0 : wc.cell? ⟨W.heap.size + 1 + 1 + 1, 0, none⟩ = some (.int .u64 0) := by rw [hc _ _ (by simp <;> omega)]; go_simp
      have v1 : wc.cell? ⟨W.heap.size + 1 + 1 + 1, 1, none⟩ = some (.int .u64 0) := by rw [hc _ _ (by simp <;> omega)]; go_simp
      have v2 : wc.cell? ⟨W.heap.size + 1 + 1 + 1, 2, none⟩ = some (.bool false) := by rw [hc _ _ (by simp <;> omega)]; go_simp
      have y0 : ∀ i, wc.frozen? ⟨W.heap.size + 1 + 1, i, none⟩ = false := fun i => by rw [hf _ _ (by simp <;> omega)]; go_simp
      have y1 : ∀ i, wc.frozen? ⟨W.heap.size + 1 + 1 + 1, i, none⟩ = false := fun i => by rw [hf _ _ (by simp <;> omega)]; go_simp
      clear hc hf
      go_wp2
      go_region
      all_goals (try go_wp2)
      have kw : Kept W wc := (((((Kept.refl W).alloc _ _).alloc _ _).alloc _ _).alloc _ _).trans hk3
      refine bodyPost_ret (v := .tuple #[.agg #[.int .u64 0, .int .u64 (x / y), .bool z1], .agg #[.int .u64 0, .int .u64 (x % y), .bool z2]]) (by simp [results, Try.results80, go_sem, u0, u1, u2, v0, v1, v2]) rfl ⟨rfl, ?_⟩
      exact ((((((kw.setCell (by dsimp only; omega) _).setCell (by dsimp only; omega) _).setCell (by dsimp only; omega) _).setCell (by dsimp only; omega) _).setCell (by dsimp only; omega) _).setCell (by dsimp only; omega) _).drewN 1

theorem quotient_any (a x c y : Int) (p q : Bool) (W : World) (hx : 0 ≤ x) (hx' : x ≤ 18446744073709551615) (hy : 1 ≤ y) (hy' : y ≤ 18446744073709551615) :
    Calls Try.prog 80 #[.agg #[.int .u64 a, .int .u64 x, .bool p], .agg #[.int .u64 c, .int .u64 y, .bool q]] W fun e w' =>
      e = .returned (.tuple #[.agg #[.int .u64 0, .int .u64 (x / y), .bool ((p != q) && !((0 : Int) == 0 && x / y == 0))], .agg #[.int .u64 0, .int .u64 (x % y), .bool (p && !((0 : Int) == 0 && x % y == 0))]]) ∧ Kept W w' :=
  quotient_raw a x c y p q _ _ W hx hx' hy hy' (fun W => fixed_any 0 (x / y) (p != q) W) (fun W => fixed_any 0 (x % y) p W)
theorem Plus_pos (a b c d : Int) (W : World) (ha : 0 ≤ a) (hb : 0 ≤ b) (hc : 0 ≤ c) (hd : 0 ≤ d) (hb' : b ≤ 18446744073709551615) (hd' : d ≤ 18446744073709551615) (Z hi lo : Int)
    (hZ : a * 18446744073709551616 + b + (c * 18446744073709551616 + d) = Z) (h : Z < 340282366920938463463374607431768211456) (hh : Z / 18446744073709551616 = hi) (hl : Z % 18446744073709551616 = lo) :
    Calls Try.prog 83 #[.agg #[.int .u64 a, .int .u64 b, .bool false], .agg #[.int .u64 c, .int .u64 d, .bool false]] W fun e w' =>
      e = .returned (.agg #[.int .u64 hi, .int .u64 lo, .bool false]) ∧ Kept W w' := by
  refine (Plus_same a b c d false W ha hb hc hd hb' hd' (by omega)).mono fun e w' ⟨he, hw⟩ => ⟨?_, hw⟩
  rw [he]
  refine congrArg Ending.returned (agg3 ?_ ?_ rfl)
  · split <;> omega
  · split <;> omega
theorem build_h (w : World) (hi : Int) : (Instr.build 68 #[(0, .int .u64 hi)]).run Try.prog w = .ok (.agg #[.int .u64 hi, .int .u64 0, .bool false]) w := run_build _ _ _ _ (by kernel_rfl)
theorem build_hl (w : World) (hi lo : Int) : (Instr.build 68 #[(0, .int .u64 hi), (1, .int .u64 lo)]).run Try.prog w = .ok (.agg #[.int .u64 hi, .int .u64 lo, .bool false]) w := run_build _ _ _ _ (by kernel_rfl)

/-- As met2, with no draw. -/
theorem met2n {L w1 : World} {n : Nat} (Z0 Z1 Z2 A B C : Value) (hn : n = L.heap.size) (h : Kept (L.alloc (.cells #[Z0, Z1, Z2] 68)) w1) :
    n < (((w1.setCell ⟨n, 0, none⟩ A).setCell ⟨n, 1, none⟩ B).setCell ⟨n, 2, none⟩ C).heap.size ∧ (((w1.setCell ⟨n, 0, none⟩ A).setCell ⟨n, 1, none⟩ B).setCell ⟨n, 2, none⟩ C).cell? ⟨n, 0, none⟩ = some A ∧
      (((w1.setCell ⟨n, 0, none⟩ A).setCell ⟨n, 1, none⟩ B).setCell ⟨n, 2, none⟩ C).cell? ⟨n, 1, none⟩ = some B ∧ (((w1.setCell ⟨n, 0, none⟩ A).setCell ⟨n, 1, none⟩ B).setCell ⟨n, 2, none⟩ C).cell? ⟨n, 2, none⟩ = some C ∧
      Kept L (((w1.setCell ⟨n, 0, none⟩ A).setCell ⟨n, 1, none⟩ B).setCell ⟨n, 2, none⟩ C) :=
  met2 Z0 Z1 Z2 A B C hn ⟨⟨h.1.os, h.1.tape, h.1.output, h.1.size, h.1.block⟩, h.2⟩
theorem met1f {w1 : World} (c : Array Value) (i : Nat) : (w1.alloc (.cells c 68)).frozen? ⟨w1.heap.size, i, none⟩ = false := World.frozen?_alloc_at _ _ _ _ rfl
theorem met2f {L w1 : World} {n : Nat} (c : Array Value) (A B C : Value) (hn : n = L.heap.size) (h : Kept (L.alloc (.cells c 68)) w1) (i : Nat) :
    (((w1.setCell ⟨n, 0, none⟩ A).setCell ⟨n, 1, none⟩ B).setCell ⟨n, 2, none⟩ C).frozen? ⟨n, i, none⟩ = false := by
  simp only [World.frozen?_setCell]
  rw [(bcell h).2 _ _ (by simp; omega)]
  exact World.frozen?_alloc_at _ _ _ _ hn

theorem prod_bd {a b : Int} (ha : 0 ≤ a) (ha' : a ≤ 4294967295) (hb : 0 ≤ b) (hb' : b ≤ 4294967295) : 0 ≤ a * b ∧ a * b ≤ 18446744065119617025 := by
  refine ⟨Int.mul_nonneg ha hb, ?_⟩
  have h1 := Int.mul_le_mul_of_nonneg_left hb' ha
  omega

set_option maxHeartbeats 3200000 in
theorem Times_raw (a x c y p q r s H1 L1 mh ml T U z' : Int) (b1 b2 z : Bool) (W : World) (hx : 0 ≤ x) (hx' : x ≤ 18446744073709551615) (hy : 0 ≤ y) (hy' : y ≤ 18446744073709551615)
    (ep : x / 4294967296 = p) (eq : x % 4294967296 = q) (er : y / 4294967296 = r) (es : y % 4294967296 = s)
    (k1 : 0 ≤ q * s) (k1' : q * s ≤ 18446744073709551615) (k2 : 0 ≤ p * s) (k2' : p * s ≤ 18446744073709551615) (k3 : 0 ≤ q * r) (k3' : q * r ≤ 18446744073709551615) (k4 : 0 ≤ p * r) (k4' : p * r ≤ 18446744073709551615)
    (m0 : 0 ≤ mh) (m1 : mh ≤ 1) (m2 : 0 ≤ ml) (m3 : ml ≤ 18446744073709551615) (eH : mh * 4294967296 + ml / 4294967296 = H1) (eL : ml % 4294967296 * 4294967296 = L1)
    (c1 : ∀ W, Calls Try.prog 83 #[.agg #[.int .u64 0, .int .u64 (p * s), .bool false], .agg #[.int .u64 0, .int .u64 (q * r), .bool false]] W fun e w' => e = .returned (.agg #[.int .u64 mh, .int .u64 ml, .bool false]) ∧ Kept W w')
    (c2 : ∀ W, Calls Try.prog 83 #[.agg #[.int .u64 0, .int .u64 (q * s), .bool false], .agg #[.int .u64 H1, .int .u64 L1, .bool false]] W fun e w' => e = .returned (.agg #[.int .u64 T, .int .u64 U, .bool false]) ∧ Kept W w')
    (c3 : ∀ W, Calls Try.prog 83 #[.agg #[.int .u64 T, .int .u64 U, .bool false], .agg #[.int .u64 (p * r), .int .u64 0, .bool false]] W fun e w' => e = .returned (.agg #[.int .u64 (x * y / 18446744073709551616), .int .u64 (x * y % 18446744073709551616), .bool false]) ∧ Kept W w')
    (c4 : ∀ W, Calls Try.prog 93 #[.agg #[.int .u64 (x * y / 18446744073709551616), .int .u64 (x * y % 18446744073709551616), .bool (b1 != b2)]] W fun e w' => e = .returned (.agg #[.int .u64 (x * y / 18446744073709551616), .int .u64 (x * y % 18446744073709551616), .bool z]) ∧ Kept W w') :
    Calls Try.prog 92 #[.agg #[.int .u64 a, .int .u64 x, .bool b1], .agg #[.int .u64 c, .int .u64 y, .bool b2]] W fun e w' =>
      e = .returned (.agg #[.int .u64 (x * y / 18446744073709551616), .int .u64 (x * y % 18446744073709551616), .bool z]) ∧ Kept W w' := by
  generalize x * y / 18446744073709551616 = XH at *
  generalize x * y % 18446744073709551616 = XL at *
  have hbl := build_lo
  have hbh := build_h
  have hbhl := build_hl
  go_enter Try.func92, Try.ntmps92
  go_upto_region 9 with ((with_reducible refine (c1 _).mono ?_); rintro e w1 ⟨rfl, hb1⟩; have hz1 := hb1.1.size; simp at hz1; obtain ⟨hc1, hf1⟩ := bcell hb1)
  have past : ∀ b o, b < w1.heap.size → (((w1.alloc (.cells #[.int .u64 mh, .int .u64 ml, .bool false] 68)).alloc (.cells #[.int .u64 (p * r), .int .u64 0, .bool false] 68)).alloc (.cells #[.int .u64 H1, .int .u64 L1, .bool false] 68)).cell? ⟨b, o, none⟩ = w1.cell? ⟨b, o, none⟩ := fun b o h => by
    rw [World.cell?_alloc_past _ _ _ (by simp <;> omega), World.cell?_alloc_past _ _ _ (by simp <;> omega), World.cell?_alloc_past _ _ _ h]
  have pastf : ∀ b o, b < w1.heap.size → (((w1.alloc (.cells #[.int .u64 mh, .int .u64 ml, .bool false] 68)).alloc (.cells #[.int .u64 (p * r), .int .u64 0, .bool false] 68)).alloc (.cells #[.int .u64 H1, .int .u64 L1, .bool false] 68)).frozen? ⟨b, o, none⟩ = w1.frozen? ⟨b, o, none⟩ := fun b o h => by
    exact ((((Kept.refl w1).alloc _ _).alloc _ _).alloc _ _).1.frozen (p := ⟨b, o, none⟩) h
  have i0 : (((w1.alloc (.cells #[.int .u64 mh, .int .u64 ml, .bool false] 68)).alloc (.cells #[.int .u64 (p * r), .int .u64 0, .bool false] 68)).alloc (.cells #[.int .u64 H1, .int .u64 L1, .bool false] 68)).cell? ⟨W.heap.size + 1 + 1 + 1, 0, none⟩ = some (.int .u64 0) := by rw [past _ _ (by omega), hc1 _ _ (by simp <;> omega)]; go_simp
  have i1 : (((w1.alloc (.cells #[.int .u64 mh, .int .u64 ml, .bool false] 68)).alloc (.cells #[.int .u64 (p * r), .int .u64 0, .bool false] 68)).alloc (.cells #[.int .u64 H1, .int .u64 L1, .bool false] 68)).cell? ⟨W.heap.size + 1 + 1 + 1, 1, none⟩ = some (.int .u64 (q * s)) := by rw [past _ _ (by omega), hc1 _ _ (by simp <;> omega)]; go_simp
  have i2 : (((w1.alloc (.cells #[.int .u64 mh, .int .u64 ml, .bool false] 68)).alloc (.cells #[.int .u64 (p * r), .int .u64 0, .bool false] 68)).alloc (.cells #[.int .u64 H1, .int .u64 L1, .bool false] 68)).cell? ⟨W.heap.size + 1 + 1 + 1, 2, none⟩ = some (.bool false) := by rw [past _ _ (by omega), hc1 _ _ (by simp <;> omega)]; go_simp
  have i3 : (((w1.alloc (.cells #[.int .u64 mh, .int .u64 ml, .bool false] 68)).alloc (.cells #[.int .u64 (p * r), .int .u64 0, .bool false] 68)).alloc (.cells #[.int .u64 H1, .int .u64 L1, .bool false] 68)).cell? ⟨W.heap.size, 2, none⟩ = some (.bool b1) := by rw [past _ _ (by omega), hc1 _ _ (by simp <;> omega)]; go_simp
  have i4 : (((w1.alloc (.cells #[.int .u64 mh, .int .u64 ml, .bool false] 68)).alloc (.cells #[.int .u64 (p * r), .int .u64 0, .bool false] 68)).alloc (.cells #[.int .u64 H1, .int .u64 L1, .bool false] 68)).cell? ⟨W.heap.size + 1, 2, none⟩ = some (.bool b2) := by rw [past _ _ (by omega), hc1 _ _ (by simp <;> omega)]; go_simp
  have i5 : (((w1.alloc (.cells #[.int .u64 mh, .int .u64 ml, .bool false] 68)).alloc (.cells #[.int .u64 (p * r), .int .u64 0, .bool false] 68)).alloc (.cells #[.int .u64 H1, .int .u64 L1, .bool false] 68)).cell? ⟨W.heap.size + 1 + 1, 0, none⟩ = some (.int .u64 0) := by rw [past _ _ (by omega), hc1 _ _ (by simp <;> omega)]; go_simp
  have i6 : (((w1.alloc (.cells #[.int .u64 mh, .int .u64 ml, .bool false] 68)).alloc (.cells #[.int .u64 (p * r), .int .u64 0, .bool false] 68)).alloc (.cells #[.int .u64 H1, .int .u64 L1, .bool false] 68)).cell? ⟨W.heap.size + 1 + 1, 1, none⟩ = some (.int .u64 0) := by rw [past _ _ (by omega), hc1 _ _ (by simp <;> omega)]; go_simp
  have i7 : (((w1.alloc (.cells #[.int .u64 mh, .int .u64 ml, .bool false] 68)).alloc (.cells #[.int .u64 (p * r), .int .u64 0, .bool false] 68)).alloc (.cells #[.int .u64 H1, .int .u64 L1, .bool false] 68)).cell? ⟨W.heap.size + 1 + 1, 2, none⟩ = some (.bool false) := by rw [past _ _ (by omega), hc1 _ _ (by simp <;> omega)]; go_simp
  have j0 : (((w1.alloc (.cells #[.int .u64 mh, .int .u64 ml, .bool false] 68)).alloc (.cells #[.int .u64 (p * r), .int .u64 0, .bool false] 68)).alloc (.cells #[.int .u64 H1, .int .u64 L1, .bool false] 68)).cell? ⟨w1.heap.size + 1, 0, none⟩ = some (.int .u64 (p * r)) := by go_simp
  have j1 : (((w1.alloc (.cells #[.int .u64 mh, .int .u64 ml, .bool false] 68)).alloc (.cells #[.int .u64 (p * r), .int .u64 0, .bool false] 68)).alloc (.cells #[.int .u64 H1, .int .u64 L1, .bool false] 68)).cell? ⟨w1.heap.size + 1, 1, none⟩ = some (.int .u64 0) := by go_simp
  have j2 : (((w1.alloc (.cells #[.int .u64 mh, .int .u64 ml, .bool false] 68)).alloc (.cells #[.int .u64 (p * r), .int .u64 0, .bool false] 68)).alloc (.cells #[.int .u64 H1, .int .u64 L1, .bool false] 68)).cell? ⟨w1.heap.size + 1, 2, none⟩ = some (.bool false) := by go_simp
  have j3 : (((w1.alloc (.cells #[.int .u64 mh, .int .u64 ml, .bool false] 68)).alloc (.cells #[.int .u64 (p * r), .int .u64 0, .bool false] 68)).alloc (.cells #[.int .u64 H1, .int .u64 L1, .bool false] 68)).cell? ⟨w1.heap.size + 1 + 1, 0, none⟩ = some (.int .u64 H1) := by go_simp
  have j4 : (((w1.alloc (.cells #[.int .u64 mh, .int .u64 ml, .bool false] 68)).alloc (.cells #[.int .u64 (p * r), .int .u64 0, .bool false] 68)).alloc (.cells #[.int .u64 H1, .int .u64 L1, .bool false] 68)).cell? ⟨w1.heap.size + 1 + 1, 1, none⟩ = some (.int .u64 L1) := by go_simp
  have j5 : (((w1.alloc (.cells #[.int .u64 mh, .int .u64 ml, .bool false] 68)).alloc (.cells #[.int .u64 (p * r), .int .u64 0, .bool false] 68)).alloc (.cells #[.int .u64 H1, .int .u64 L1, .bool false] 68)).cell? ⟨w1.heap.size + 1 + 1, 2, none⟩ = some (.bool false) := by go_simp
  have y0 : ∀ i, (((w1.alloc (.cells #[.int .u64 mh, .int .u64 ml, .bool false] 68)).alloc (.cells #[.int .u64 (p * r), .int .u64 0, .bool false] 68)).alloc (.cells #[.int .u64 H1, .int .u64 L1, .bool false] 68)).frozen? ⟨W.heap.size + 1 + 1, i, none⟩ = false := fun i => by rw [pastf _ _ (by omega), hf1 _ _ (by simp <;> omega)]; go_simp
  have kL : Kept W (((w1.alloc (.cells #[.int .u64 mh, .int .u64 ml, .bool false] 68)).alloc (.cells #[.int .u64 (p * r), .int .u64 0, .bool false] 68)).alloc (.cells #[.int .u64 H1, .int .u64 L1, .bool false] 68)) := (((((((Kept.refl W).alloc _ _).alloc _ _).alloc _ _).alloc _ _).trans hb1).alloc _ _).alloc _ _ |>.alloc _ _
  have sL1 : (((w1.alloc (.cells #[.int .u64 mh, .int .u64 ml, .bool false] 68)).alloc (.cells #[.int .u64 (p * r), .int .u64 0, .bool false] 68)).alloc (.cells #[.int .u64 H1, .int .u64 L1, .bool false] 68)).heap.size ≤ w1.heap.size + 3 := by simp
  have sL2 : w1.heap.size + 3 ≤ (((w1.alloc (.cells #[.int .u64 mh, .int .u64 ml, .bool false] 68)).alloc (.cells #[.int .u64 (p * r), .int .u64 0, .bool false] 68)).alloc (.cells #[.int .u64 H1, .int .u64 L1, .bool false] 68)).heap.size := by simp
  clear past pastf hc1 hf1
  generalize hL : (((w1.alloc (.cells #[.int .u64 mh, .int .u64 ml, .bool false] 68)).alloc (.cells #[.int .u64 (p * r), .int .u64 0, .bool false] 68)).alloc (.cells #[.int .u64 H1, .int .u64 L1, .bool false] 68)) = wl at *
  clear hL
  have dr : ∀ a, wl.drew.cell? a = wl.cell? a := fun _ => rfl
  go_cut [13] (fun s13 wx => ∃ g : Nat, s13 = .pointer (some ⟨g, 0, none⟩) ∧ w1.heap.size < g ∧ (∀ i, wx.frozen? ⟨g, i, none⟩ = false) ∧ g < wx.heap.size ∧ wx.cell? ⟨g, 0, none⟩ = some (.int .u64 XH) ∧ wx.cell? ⟨g, 1, none⟩ = some (.int .u64 XL) ∧ wx.cell? ⟨g, 2, none⟩ = some (.bool false) ∧ Kept wl wx)
  case first =>
    go_region_held3 (fun w' => w'.cell? ⟨W.heap.size + 1 + 1 + 1, 0, none⟩ = some (.int .u64 0) ∧ w'.cell? ⟨W.heap.size + 1 + 1 + 1, 1, none⟩ = some (.int .u64 (q * s)) ∧ w'.cell? ⟨W.heap.size + 1 + 1 + 1, 2, none⟩ = some (.bool false) ∧ w'.cell? ⟨w1.heap.size + 1 + 1, 0, none⟩ = some (.int .u64 H1) ∧ w'.cell? ⟨w1.heap.size + 1 + 1, 1, none⟩ = some (.int .u64 L1) ∧ w'.cell? ⟨w1.heap.size + 1 + 1, 2, none⟩ = some (.bool false) ∧ w'.cell? ⟨w1.heap.size + 1, 0, none⟩ = some (.int .u64 (p * r)) ∧ w'.cell? ⟨w1.heap.size + 1, 1, none⟩ = some (.int .u64 0) ∧ w'.cell? ⟨w1.heap.size + 1, 2, none⟩ = some (.bool false))
      (((try dsimp only); (repeat' apply And.intro) <;> (first | (with_reducible assumption) | (rw [dr]; with_reducible assumption) | (rw [World.cell?_drew, World.cell?_alloc_past _ _ _ (by omega)]; with_reducible assumption) | (rw [World.cell?_alloc_past _ _ _ (by omega)]; with_reducible assumption) | (rw [World.cell?_setCell_far _ _ _ _ (by dsimp only; omega), World.cell?_setCell_far _ _ _ _ (by dsimp only; omega), World.cell?_setCell_far _ _ _ _ (by dsimp only; omega)]; with_reducible assumption))))
      (first
        | (go_at_call 83; (with_reducible refine (c2 _).mono ?_); rintro e w2 ⟨rfl, hb2⟩
           have hz2 := hb2.1.size
           (try simp at hz2)
           obtain ⟨hc2, hf2⟩ := bcell hb2
           try (have z0 : w2.cell? ⟨wl.heap.size, 0, none⟩ = some (.int .u64 0) := by rw [hc2 _ _ (by simp <;> omega), World.cell?_drew, World.cell?_alloc_at _ _ _ _ rfl]; rfl)
           try (have z1 : w2.cell? ⟨wl.heap.size, 1, none⟩ = some (.int .u64 0) := by rw [hc2 _ _ (by simp <;> omega), World.cell?_drew, World.cell?_alloc_at _ _ _ _ rfl]; rfl)
           try (have z2 : w2.cell? ⟨wl.heap.size, 2, none⟩ = some (.bool false) := by rw [hc2 _ _ (by simp <;> omega), World.cell?_drew, World.cell?_alloc_at _ _ _ _ rfl]; rfl)
           try (have zf : ∀ i, w2.frozen? ⟨wl.heap.size, i, none⟩ = false := fun i => by rw [hf2 _ _ (by simp <;> omega)]; exact World.frozen?_alloc_at _ _ _ _ rfl)
           have f0 : w2.cell? ⟨W.heap.size + 1 + 1 + 1, 0, none⟩ = some (.int .u64 0) := by rw [hc2 _ _ (by first | omega | (simp <;> omega))]; first | (with_reducible assumption) | (rw [dr]; with_reducible assumption) | (rw [World.cell?_drew, World.cell?_alloc_past _ _ _ (by omega)]; with_reducible assumption) | (rw [World.cell?_alloc_past _ _ _ (by omega)]; with_reducible assumption)
           have f1 : w2.cell? ⟨W.heap.size + 1 + 1 + 1, 1, none⟩ = some (.int .u64 (q * s)) := by rw [hc2 _ _ (by first | omega | (simp <;> omega))]; first | (with_reducible assumption) | (rw [dr]; with_reducible assumption) | (rw [World.cell?_drew, World.cell?_alloc_past _ _ _ (by omega)]; with_reducible assumption) | (rw [World.cell?_alloc_past _ _ _ (by omega)]; with_reducible assumption)
           have f2 : w2.cell? ⟨W.heap.size + 1 + 1 + 1, 2, none⟩ = some (.bool false) := by rw [hc2 _ _ (by first | omega | (simp <;> omega))]; first | (with_reducible assumption) | (rw [dr]; with_reducible assumption) | (rw [World.cell?_drew, World.cell?_alloc_past _ _ _ (by omega)]; with_reducible assumption) | (rw [World.cell?_alloc_past _ _ _ (by omega)]; with_reducible assumption)
           have f3 : w2.cell? ⟨w1.heap.size + 1 + 1, 0, none⟩ = some (.int .u64 H1) := by rw [hc2 _ _ (by first | omega | (simp <;> omega))]; first | (with_reducible assumption) | (rw [dr]; with_reducible assumption) | (rw [World.cell?_drew, World.cell?_alloc_past _ _ _ (by omega)]; with_reducible assumption) | (rw [World.cell?_alloc_past _ _ _ (by omega)]; with_reducible assumption)
           have f4 : w2.cell? ⟨w1.heap.size + 1 + 1, 1, none⟩ = some (.int .u64 L1) := by rw [hc2 _ _ (by first | omega | (simp <;> omega))]; first | (with_reducible assumption) | (rw [dr]; with_reducible assumption) | (rw [World.cell?_drew, World.cell?_alloc_past _ _ _ (by omega)]; with_reducible assumption) | (rw [World.cell?_alloc_past _ _ _ (by omega)]; with_reducible assumption)
           have f5 : w2.cell? ⟨w1.heap.size + 1 + 1, 2, none⟩ = some (.bool false) := by rw [hc2 _ _ (by first | omega | (simp <;> omega))]; first | (with_reducible assumption) | (rw [dr]; with_reducible assumption) | (rw [World.cell?_drew, World.cell?_alloc_past _ _ _ (by omega)]; with_reducible assumption) | (rw [World.cell?_alloc_past _ _ _ (by omega)]; with_reducible assumption)
           have f6 : w2.cell? ⟨w1.heap.size + 1, 0, none⟩ = some (.int .u64 (p * r)) := by rw [hc2 _ _ (by first | omega | (simp <;> omega))]; first | (with_reducible assumption) | (rw [dr]; with_reducible assumption) | (rw [World.cell?_drew, World.cell?_alloc_past _ _ _ (by omega)]; with_reducible assumption) | (rw [World.cell?_alloc_past _ _ _ (by omega)]; with_reducible assumption)
           have f7 : w2.cell? ⟨w1.heap.size + 1, 1, none⟩ = some (.int .u64 0) := by rw [hc2 _ _ (by first | omega | (simp <;> omega))]; first | (with_reducible assumption) | (rw [dr]; with_reducible assumption) | (rw [World.cell?_drew, World.cell?_alloc_past _ _ _ (by omega)]; with_reducible assumption) | (rw [World.cell?_alloc_past _ _ _ (by omega)]; with_reducible assumption)
           have f8 : w2.cell? ⟨w1.heap.size + 1, 2, none⟩ = some (.bool false) := by rw [hc2 _ _ (by first | omega | (simp <;> omega))]; first | (with_reducible assumption) | (rw [dr]; with_reducible assumption) | (rw [World.cell?_drew, World.cell?_alloc_past _ _ _ (by omega)]; with_reducible assumption) | (rw [World.cell?_alloc_past _ _ _ (by omega)]; with_reducible assumption)
)
        | (go_at_call 83; (with_reducible refine (c3 _).mono ?_); rintro e w3 ⟨rfl, hb3⟩
           have hz3 := hb3.1.size
           (try simp at hz3)
           obtain ⟨hc3, hf3⟩ := bcell hb3
           try (have zz0 : w3.cell? ⟨wl.heap.size, 0, none⟩ = some (.int .u64 0) := by rw [hc3 _ _ (by omega)]; exact z0)
           try (have zz1 : w3.cell? ⟨wl.heap.size, 1, none⟩ = some (.int .u64 0) := by rw [hc3 _ _ (by omega)]; exact z1)
           try (have zz2 : w3.cell? ⟨wl.heap.size, 2, none⟩ = some (.bool false) := by rw [hc3 _ _ (by omega)]; exact z2)
           try (have zzf : ∀ i, w3.frozen? ⟨wl.heap.size, i, none⟩ = false := fun i => by rw [hf3 _ _ (by omega)]; exact zf i)
           try (have zy0 : w3.cell? ⟨w2.heap.size, 0, none⟩ = some (.int .u64 0) := by rw [hc3 _ _ (by simp <;> omega), World.cell?_alloc_at _ _ _ _ rfl]; rfl)
           try (have zy1 : w3.cell? ⟨w2.heap.size, 1, none⟩ = some (.int .u64 0) := by rw [hc3 _ _ (by simp <;> omega), World.cell?_alloc_at _ _ _ _ rfl]; rfl)
           try (have zy2 : w3.cell? ⟨w2.heap.size, 2, none⟩ = some (.bool false) := by rw [hc3 _ _ (by simp <;> omega), World.cell?_alloc_at _ _ _ _ rfl]; rfl)
           try (have zyf : ∀ i, w3.frozen? ⟨w2.heap.size, i, none⟩ = false := fun i => by rw [hf3 _ _ (by simp <;> omega)]; exact World.frozen?_alloc_at _ _ _ _ rfl)
           have f0 : w3.cell? ⟨W.heap.size + 1 + 1 + 1, 0, none⟩ = some (.int .u64 0) := by rw [hc3 _ _ (by first | omega | (simp <;> omega))]; first | (with_reducible assumption) | (rw [dr]; with_reducible assumption) | (rw [World.cell?_drew, World.cell?_alloc_past _ _ _ (by omega)]; with_reducible assumption) | (rw [World.cell?_alloc_past _ _ _ (by omega)]; with_reducible assumption)
           have f1 : w3.cell? ⟨W.heap.size + 1 + 1 + 1, 1, none⟩ = some (.int .u64 (q * s)) := by rw [hc3 _ _ (by first | omega | (simp <;> omega))]; first | (with_reducible assumption) | (rw [dr]; with_reducible assumption) | (rw [World.cell?_drew, World.cell?_alloc_past _ _ _ (by omega)]; with_reducible assumption) | (rw [World.cell?_alloc_past _ _ _ (by omega)]; with_reducible assumption)
           have f2 : w3.cell? ⟨W.heap.size + 1 + 1 + 1, 2, none⟩ = some (.bool false) := by rw [hc3 _ _ (by first | omega | (simp <;> omega))]; first | (with_reducible assumption) | (rw [dr]; with_reducible assumption) | (rw [World.cell?_drew, World.cell?_alloc_past _ _ _ (by omega)]; with_reducible assumption) | (rw [World.cell?_alloc_past _ _ _ (by omega)]; with_reducible assumption)
           have f3 : w3.cell? ⟨w1.heap.size + 1 + 1, 0, none⟩ = some (.int .u64 H1) := by rw [hc3 _ _ (by first | omega | (simp <;> omega))]; first | (with_reducible assumption) | (rw [dr]; with_reducible assumption) | (rw [World.cell?_drew, World.cell?_alloc_past _ _ _ (by omega)]; with_reducible assumption) | (rw [World.cell?_alloc_past _ _ _ (by omega)]; with_reducible assumption)
           have f4 : w3.cell? ⟨w1.heap.size + 1 + 1, 1, none⟩ = some (.int .u64 L1) := by rw [hc3 _ _ (by first | omega | (simp <;> omega))]; first | (with_reducible assumption) | (rw [dr]; with_reducible assumption) | (rw [World.cell?_drew, World.cell?_alloc_past _ _ _ (by omega)]; with_reducible assumption) | (rw [World.cell?_alloc_past _ _ _ (by omega)]; with_reducible assumption)
           have f5 : w3.cell? ⟨w1.heap.size + 1 + 1, 2, none⟩ = some (.bool false) := by rw [hc3 _ _ (by first | omega | (simp <;> omega))]; first | (with_reducible assumption) | (rw [dr]; with_reducible assumption) | (rw [World.cell?_drew, World.cell?_alloc_past _ _ _ (by omega)]; with_reducible assumption) | (rw [World.cell?_alloc_past _ _ _ (by omega)]; with_reducible assumption)
           have f6 : w3.cell? ⟨w1.heap.size + 1, 0, none⟩ = some (.int .u64 (p * r)) := by rw [hc3 _ _ (by first | omega | (simp <;> omega))]; first | (with_reducible assumption) | (rw [dr]; with_reducible assumption) | (rw [World.cell?_drew, World.cell?_alloc_past _ _ _ (by omega)]; with_reducible assumption) | (rw [World.cell?_alloc_past _ _ _ (by omega)]; with_reducible assumption)
           have f7 : w3.cell? ⟨w1.heap.size + 1, 1, none⟩ = some (.int .u64 0) := by rw [hc3 _ _ (by first | omega | (simp <;> omega))]; first | (with_reducible assumption) | (rw [dr]; with_reducible assumption) | (rw [World.cell?_drew, World.cell?_alloc_past _ _ _ (by omega)]; with_reducible assumption) | (rw [World.cell?_alloc_past _ _ _ (by omega)]; with_reducible assumption)
           have f8 : w3.cell? ⟨w1.heap.size + 1, 2, none⟩ = some (.bool false) := by rw [hc3 _ _ (by first | omega | (simp <;> omega))]; first | (with_reducible assumption) | (rw [dr]; with_reducible assumption) | (rw [World.cell?_drew, World.cell?_alloc_past _ _ _ (by omega)]; with_reducible assumption) | (rw [World.cell?_alloc_past _ _ _ (by omega)]; with_reducible assumption)
))
    all_goals (go_wp2_with fail; go_meet)
    · exact ⟨_, rfl, by omega, fun i => met1f _ i, met1 _ _ _ ((Kept.of_drew hb2).trans hb3)⟩
    · have m := met2n (.int .u64 0) (.int .u64 0) (.bool false) (.int .u64 XH) (.int .u64 XL) (.bool false) rfl hb3
      exact ⟨_, rfl, by omega, fun i => met2f _ _ _ _ rfl hb3 i, m.1, m.2.1, m.2.2.1, m.2.2.2.1, (Kept.of_drew hb2).trans m.2.2.2.2⟩
    · exact ⟨_, rfl, by omega, fun i => met2f _ _ _ _ rfl (Kept.of_drew (hb2.trans hb3)) i, met2 (.int .u64 0) (.int .u64 0) (.bool false) (.int .u64 XH) (.int .u64 XL) (.bool false) rfl (hb2.trans hb3)⟩
  case rest =>
    obtain ⟨g, rfl, hg1, gf, hg2, q0, q1, q2, hk⟩ := hcut
    have kw := kL.trans hk
    obtain ⟨hc, hf⟩ := bcell hk
    have f3 : wc.cell? ⟨W.heap.size, 2, none⟩ = some (.bool b1) := by rw [hc _ _ (by omega)]; exact i3
    have f4 : wc.cell? ⟨W.heap.size + 1, 2, none⟩ = some (.bool b2) := by rw [hc _ _ (by omega)]; exact i4
    have f5 : wc.cell? ⟨W.heap.size + 1 + 1, 0, none⟩ = some (.int .u64 0) := by rw [hc _ _ (by omega)]; exact i5
    have f6 : wc.cell? ⟨W.heap.size + 1 + 1, 1, none⟩ = some (.int .u64 0) := by rw [hc _ _ (by omega)]; exact i6
    have f7 : wc.cell? ⟨W.heap.size + 1 + 1, 2, none⟩ = some (.bool false) := by rw [hc _ _ (by omega)]; exact i7
    have f8 : ∀ i, wc.frozen? ⟨W.heap.size + 1 + 1, i, none⟩ = false := fun i => by rw [hf _ _ (by omega)]; exact y0 i
    clear hc hf i0 i1 i2 i3 i4 i5 i6 i7 j0 j1 j2 j3 j4 j5 y0 dr c1 c2 c3 hbl hbh hbhl
    have hgz : W.heap.size + 1 + 1 < wc.heap.size := by omega
    have hgg : g ≠ W.heap.size + 1 + 1 := by omega
    have far : ∀ (v : Value) (w5 : World), Kept (wc.setCell ⟨g, 2, none⟩ v) w5 → (∀ i, w5.cell? ⟨W.heap.size + 1 + 1, i, none⟩ = wc.cell? ⟨W.heap.size + 1 + 1, i, none⟩) ∧ ∀ i, w5.frozen? ⟨W.heap.size + 1 + 1, i, none⟩ = wc.frozen? ⟨W.heap.size + 1 + 1, i, none⟩ := fun v w5 h =>
      ⟨fun i => by rw [(bcell h).1 _ _ (by simpa [World.setCell] using hgz), World.cell?_setCell_far _ _ _ _ hgg], fun i => by rw [(bcell h).2 _ _ (by simpa [World.setCell] using hgz), World.frozen?_setCell]⟩
    have FAR := Lib.hid far
    clear far
    go_wp2_with (refine (c4 _).mono ?_; rintro e w5 ⟨rfl, hb5⟩
                 have g5 : w5.cell? ⟨W.heap.size + 1 + 1, 0, none⟩ = some (.int .u64 0) := by rw [(FAR.out _ _ hb5).1]; exact f5
                 have g6 : w5.cell? ⟨W.heap.size + 1 + 1, 1, none⟩ = some (.int .u64 0) := by rw [(FAR.out _ _ hb5).1]; exact f6
                 have g7 : w5.cell? ⟨W.heap.size + 1 + 1, 2, none⟩ = some (.bool false) := by rw [(FAR.out _ _ hb5).1]; exact f7
                 have g8 : ∀ i, w5.frozen? ⟨W.heap.size + 1 + 1, i, none⟩ = false := fun i => by rw [(FAR.out _ _ hb5).2]; exact f8 i)
    refine bodyPost_ret (v := .agg #[.int .u64 XH, .int .u64 XL, .bool z]) (by simp [results, Try.results92, go_sem, g5, g6, g7]) rfl ⟨rfl, ?_⟩
    exact (((((kw.setCell (by dsimp only; omega) _).trans hb5).setCell (by dsimp only; omega) _).setCell (by dsimp only; omega) _).setCell (by dsimp only; omega) _)
theorem halves (x y p q r s : Int) (hx : x = 4294967296 * p + q) (hy : y = 4294967296 * r + s) :
    q * s + (p * s + q * r) * 4294967296 + p * r * 18446744073709551616 = x * y := by
  subst hx; subst hy
  have e0 : (4294967296 * p + q) * (4294967296 * r + s) = 4294967296 * p * (4294967296 * r) + 4294967296 * p * s + (q * (4294967296 * r) + q * s) := by
    rw [Int.add_mul, Int.mul_add, Int.mul_add]
  have e1 : 4294967296 * p * (4294967296 * r) = 4294967296 * (4294967296 * (p * r)) := by rw [Int.mul_assoc, Int.mul_left_comm p]
  have e2 : 4294967296 * p * s = 4294967296 * (p * s) := Int.mul_assoc _ _ _
  have e3 : q * (4294967296 * r) = 4294967296 * (q * r) := Int.mul_left_comm _ _ _
  rw [e0, e1, e2, e3]
  omega

theorem Times_of (x y : Int) (hx : -18446744073709551616 < x ∧ x < 18446744073709551616) (hy : -18446744073709551616 < y ∧ y < 18446744073709551616) :
    Makes 92 #[bigOf x, bigOf y] (bigOf (x * y)) := by
  intro W
  have X0 : 0 ≤ mag x := by unfold mag; split <;> omega
  have Y0 : 0 ≤ mag y := by unfold mag; split <;> omega
  have X1 : mag x ≤ 18446744073709551615 := by unfold mag; split <;> omega
  have Y1 : mag y ≤ 18446744073709551615 := by unfold mag; split <;> omega
  have hm : mag (x * y) = mag x * mag y := by
    unfold mag
    by_cases h1 : x < 0 <;> by_cases h2 : y < 0 <;> simp only [h1, h2, if_true, if_false]
    · have := Int.mul_pos_of_neg_of_neg h1 h2
      rw [if_neg (by omega), Int.neg_mul_neg]
    · have := Int.mul_nonneg (show 0 ≤ -x by omega) (show 0 ≤ y by omega)
      rw [Int.neg_mul] at *
      split <;> omega
    · have := Int.mul_nonneg (show 0 ≤ x by omega) (show 0 ≤ -y by omega)
      rw [Int.mul_neg] at *
      split <;> omega
    · have := Int.mul_nonneg (show 0 ≤ x by omega) (show 0 ≤ y by omega)
      rw [if_neg (by omega)]
  have hz : ((decide (x < 0) != decide (y < 0)) && !(mag x * mag y / 18446744073709551616 == 0 && mag x * mag y % 18446744073709551616 == 0)) = decide (x * y < 0) := by
    have hM : 0 ≤ mag x * mag y := Int.mul_nonneg X0 Y0
    have hn : (!(mag x * mag y / 18446744073709551616 == 0 && mag x * mag y % 18446744073709551616 == 0)) = decide (x * y ≠ 0) := by
      rw [Bool.eq_iff_iff]
      simp only [Bool.not_eq_true', Bool.and_eq_false_iff, beq_eq_false_iff_ne, decide_eq_true_eq, ne_eq]
      have : x * y = 0 ↔ mag x * mag y = 0 := by rw [← hm]; unfold mag; split <;> omega
      omega
    rw [hn]
    clear hn hm hM
    by_cases h1 : x < 0 <;> by_cases h2 : y < 0
    · have := Int.mul_pos_of_neg_of_neg h1 h2
      generalize x * y = t at *
      have h3 : ¬ t < 0 := by omega
      simp [h1, h2, h3]
    · have := Int.mul_nonneg (show 0 ≤ -x by omega) (show 0 ≤ y by omega)
      rw [Int.neg_mul] at this
      generalize x * y = t at *
      rw [Bool.eq_iff_iff]; simp only [h1, h2, decide_true, decide_false, Bool.and_eq_true, decide_eq_true_eq]
      simp; omega
    · have := Int.mul_nonneg (show 0 ≤ x by omega) (show 0 ≤ -y by omega)
      rw [Int.mul_neg] at this
      generalize x * y = t at *
      rw [Bool.eq_iff_iff]; simp only [h1, h2, decide_true, decide_false, Bool.and_eq_true, decide_eq_true_eq]
      simp; omega
    · have := Int.mul_nonneg (show 0 ≤ x by omega) (show 0 ≤ y by omega)
      generalize x * y = t at *
      have h3 : ¬ t < 0 := by omega
      simp [h1, h2, h3]
  have ex : mag x % 18446744073709551616 = mag x := Int.emod_eq_of_lt X0 (by omega)
  have ey : mag y % 18446744073709551616 = mag y := Int.emod_eq_of_lt Y0 (by omega)
  unfold bigOf
  rw [hm, ex, ey]
  generalize decide (x < 0) = b1 at *
  generalize decide (y < 0) = b2 at *
  generalize decide (x * y < 0) = z at *
  generalize mag x = X at *
  generalize mag y = Y at *
  have p1 : 0 ≤ X / 4294967296 := by omega
  have p2 : X / 4294967296 ≤ 4294967295 := by omega
  have q1 : 0 ≤ X % 4294967296 := by omega
  have q2 : X % 4294967296 ≤ 4294967295 := by omega
  have r1 : 0 ≤ Y / 4294967296 := by omega
  have r2 : Y / 4294967296 ≤ 4294967295 := by omega
  have s1 : 0 ≤ Y % 4294967296 := by omega
  have s2 : Y % 4294967296 ≤ 4294967295 := by omega
  have hh := halves X Y (X / 4294967296) (X % 4294967296) (Y / 4294967296) (Y % 4294967296) (by omega) (by omega)
  have b1' := prod_bd q1 q2 s1 s2
  have b2' := prod_bd p1 p2 s1 s2
  have b3' := prod_bd q1 q2 r1 r2
  have b4' := prod_bd p1 p2 r1 r2
  have c4 := fun W => fixed_any (X * Y / 18446744073709551616) (X * Y % 18446744073709551616) (b1 != b2) W
  rw [hz] at c4
  have key := fun (p q r s : Int) (hp : X / 4294967296 = p) (hq : X % 4294967296 = q) (hr : Y / 4294967296 = r) (hs : Y % 4294967296 = s)
      (hh : q * s + (p * s + q * r) * 4294967296 + p * r * 18446744073709551616 = X * Y) (b1' : 0 ≤ q * s ∧ q * s ≤ 18446744065119617025) (b2' : 0 ≤ p * s ∧ p * s ≤ 18446744065119617025)
      (b3' : 0 ≤ q * r ∧ q * r ≤ 18446744065119617025) (b4' : 0 ≤ p * r ∧ p * r ≤ 18446744065119617025) =>
    Times_raw (X / 18446744073709551616) X (Y / 18446744073709551616) Y p q r s ((p * s + q * r) / 18446744073709551616 * 4294967296 + (p * s + q * r) % 18446744073709551616 / 4294967296) ((p * s + q * r) % 18446744073709551616 % 4294967296 * 4294967296)
      ((p * s + q * r) / 18446744073709551616) ((p * s + q * r) % 18446744073709551616) ((q * s + (p * s + q * r) * 4294967296) / 18446744073709551616) ((q * s + (p * s + q * r) * 4294967296) % 18446744073709551616) 0 b1 b2 z W X0 X1 Y0 Y1 hp hq hr hs
      b1'.1 (by omega) b2'.1 (by omega) b3'.1 (by omega) b4'.1 (by omega) (by omega) (by omega) (by omega) (by omega) rfl rfl
      (fun W => Plus_pos 0 (p * s) 0 (q * r) W (by omega) (by omega) (by omega) (by omega) (by omega) (by omega) (p * s + q * r) _ _ (by omega) (by omega) rfl rfl)
      (fun W => Plus_pos 0 (q * s) _ _ W (by omega) (by omega) (by omega) (by omega) (by omega) (by omega) (q * s + (p * s + q * r) * 4294967296) _ _ (by omega) (by omega) rfl rfl)
      (fun W => Plus_pos _ _ (p * r) 0 W (by omega) (by omega) (by omega) (by omega) (by omega) (by omega) (X * Y) _ _ (by omega) (by omega) rfl rfl)
      c4
  have X2 : X / 18446744073709551616 = 0 := by omega
  have Y2 : Y / 18446744073709551616 = 0 := by omega
  rw [X2, Y2] at key
  rw [X2, Y2]
  exact key _ _ _ _ rfl rfl rfl rfl hh b1' b2' b3' b4'

theorem big_pm (k : Int) (b : Bool) (h : 0 ≤ k ∧ k ≤ 18446744073709551615) : Value.agg #[.int .u64 0, .int .u64 k, .bool (b && !((0 : Int) == 0 && k == 0))] = bigOf (if b then -k else k) := by
  unfold bigOf
  cases b
  · simp only [Bool.false_eq_true, if_false, Bool.false_and]
    rw [mag_pos (by omega)]
    exact agg3 (by omega) (by omega) (by simp; omega)
  · simp only [if_true, Bool.true_and]
    by_cases h0 : k = 0
    · subst h0; exact agg3 rfl rfl rfl
    · rw [mag_neg (by omega)]
      exact agg3 (by omega) (by omega) (by rw [Bool.eq_iff_iff]; simp; omega)
theorem quotient_of (x y : Int) (hx : -18446744073709551616 < x ∧ x < 18446744073709551616) (hy : -18446744073709551616 < y ∧ y < 18446744073709551616) (h0 : y ≠ 0) :
    Makes 80 #[bigOf x, bigOf y] (.tuple #[bigOf (x.tdiv y), bigOf (x.tmod y)]) := by
  intro W
  have X0 : 0 ≤ mag x := by unfold mag; split <;> omega
  have Y0 : 1 ≤ mag y := by unfold mag; split <;> omega
  have X1 : mag x ≤ 18446744073709551615 := by unfold mag; split <;> omega
  have Y1 : mag y ≤ 18446744073709551615 := by unfold mag; split <;> omega
  have ex : mag x % 18446744073709551616 = mag x := Int.emod_eq_of_lt X0 (by omega)
  have ey : mag y % 18446744073709551616 = mag y := Int.emod_eq_of_lt (by omega) (by omega)
  have hq : x.tdiv y = if (decide (x < 0) != decide (y < 0)) then -(mag x / mag y) else mag x / mag y := by
    by_cases h1 : x < 0 <;> by_cases h2 : y < 0
    · rw [mag_neg h1, mag_neg h2]; simp only [h1, h2, decide_true, bne_self_eq_false, Bool.false_eq_true, if_false]
      rw [← Int.tdiv_eq_ediv_of_nonneg (by omega), Int.neg_tdiv_neg]
    · rw [mag_neg h1, mag_pos h2]; simp only [h1, h2, decide_true, decide_false, Bool.bne_false, if_true]
      rw [← Int.tdiv_eq_ediv_of_nonneg (by omega), Int.neg_tdiv, Int.neg_neg]
    · rw [mag_pos h1, mag_neg h2]; simp only [h1, h2, decide_true, decide_false, Bool.bne_true, Bool.not_false, if_true]
      rw [← Int.tdiv_eq_ediv_of_nonneg (by omega), Int.tdiv_neg, Int.neg_neg]
    · rw [mag_pos h1, mag_pos h2]; simp only [h1, h2, decide_false, bne_self_eq_false, Bool.false_eq_true, if_false]
      rw [← Int.tdiv_eq_ediv_of_nonneg (by omega)]
  have hr : x.tmod y = if decide (x < 0) then -(mag x % mag y) else mag x % mag y := by
    by_cases h1 : x < 0 <;> by_cases h2 : y < 0
    · rw [mag_neg h1, mag_neg h2]; simp only [h1, decide_true, if_true]
      rw [← Int.tmod_eq_emod_of_nonneg (by omega), Int.tmod_neg, Int.neg_tmod, Int.neg_neg]
    · rw [mag_neg h1, mag_pos h2]; simp only [h1, decide_true, if_true]
      rw [← Int.tmod_eq_emod_of_nonneg (by omega), Int.neg_tmod, Int.neg_neg]
    · rw [mag_pos h1, mag_neg h2]; simp only [h1, decide_false, Bool.false_eq_true, if_false]
      rw [← Int.tmod_eq_emod_of_nonneg (by omega), Int.tmod_neg]
    · rw [mag_pos h1, mag_pos h2]; simp only [h1, decide_false, Bool.false_eq_true, if_false]
      rw [← Int.tmod_eq_emod_of_nonneg (by omega)]
  have hq0 : 0 ≤ mag x / mag y := Int.ediv_nonneg X0 (by omega)
  have hq1 := Int.ediv_le_self (mag y) X0
  have hr0 := Int.emod_nonneg (mag x) (show mag y ≠ 0 by omega)
  have hr1 := Int.emod_lt_of_pos (mag x) (show 0 < mag y by omega)
  rw [hq, hr, ← big_pm _ _ ⟨hq0, by omega⟩, ← big_pm _ _ ⟨hr0, by omega⟩]
  have hc := quotient_any (mag x / 18446744073709551616) (mag x) (mag y / 18446744073709551616) (mag y) (decide (x < 0)) (decide (y < 0)) W X0 X1 Y0 Y1
  unfold bigOf
  rw [ex, ey]
  exact hc
set_option maxHeartbeats 1000000 in
theorem fits_t (w t a c d l : Int) (p q : Bool) (W : World)
    (c1 : Makes 52 #[.int .i64 w, .agg #[.int .u64 a, .int .u64 l, .bool p]] (.int .u64 t))
    (c2 : Makes 53 #[.int .i64 w, .int .u64 t] (.agg #[.int .u64 c, .int .u64 d, .bool q])) :
    Calls Try.prog 78 #[.int .i64 w, .agg #[.int .u64 a, .int .u64 l, .bool p], .bool true] W fun e w' => e = .returned (.bool (c == a && (d == l && q == p))) ∧ Kept W w' := by
  go_enter Try.func78, Try.ntmps78
  go_wp2_with (first
    | ((with_reducible refine (c1.go _).mono ?_); rintro e w1 ⟨rfl, hb1⟩
       have hz1 : W.heap.size < w1.heap.size := by have := hb1.1.size; simp at this; omega
       have e0 : w1.cell? ⟨W.heap.size, 0, none⟩ = some (.int .u64 a) := by rw [(bcell hb1).1 _ _ (by simp)]; go_simp
       have e1 : w1.cell? ⟨W.heap.size, 1, none⟩ = some (.int .u64 l) := by rw [(bcell hb1).1 _ _ (by simp)]; go_simp
       have e2 : w1.cell? ⟨W.heap.size, 2, none⟩ = some (.bool p) := by rw [(bcell hb1).1 _ _ (by simp)]; go_simp)
    | ((with_reducible refine (c2.go _).mono ?_); rintro e w2 ⟨rfl, hb2⟩
       have hz2 : W.heap.size < w2.heap.size := by have := hb2.1.size; omega
       have f0 : w2.cell? ⟨W.heap.size, 0, none⟩ = some (.int .u64 a) := by rw [(bcell hb2).1 _ _ hz1]; exact e0
       have f1 : w2.cell? ⟨W.heap.size, 1, none⟩ = some (.int .u64 l) := by rw [(bcell hb2).1 _ _ hz1]; exact e1
       have f2 : w2.cell? ⟨W.heap.size, 2, none⟩ = some (.bool p) := by rw [(bcell hb2).1 _ _ hz1]; exact e2))
  all_goals go_ret
  all_goals refine ⟨ret_bool ?_, ((((Kept.refl W).alloc _ _).trans hb1).trans hb2).alloc _ _⟩
  all_goals clear hb1 hb2 c1 c2
  all_goals simp_all
set_option maxHeartbeats 1000000 in
theorem fits_f (w t a c d l : Int) (p q : Bool) (W : World)
    (c1 : Makes 52 #[.int .i64 w, .agg #[.int .u64 a, .int .u64 l, .bool p]] (.int .u64 t))
    (c2 : Makes 79 #[.int .i64 w, .int .u64 t] (.agg #[.int .u64 c, .int .u64 d, .bool q])) :
    Calls Try.prog 78 #[.int .i64 w, .agg #[.int .u64 a, .int .u64 l, .bool p], .bool false] W fun e w' => e = .returned (.bool (c == a && (d == l && q == p))) ∧ Kept W w' := by
  go_enter Try.func78, Try.ntmps78
  go_wp2_with (first
    | ((with_reducible refine (c1.go _).mono ?_); rintro e w1 ⟨rfl, hb1⟩
       have hz1 : W.heap.size < w1.heap.size := by have := hb1.1.size; simp at this; omega
       have e0 : w1.cell? ⟨W.heap.size, 0, none⟩ = some (.int .u64 a) := by rw [(bcell hb1).1 _ _ (by simp)]; go_simp
       have e1 : w1.cell? ⟨W.heap.size, 1, none⟩ = some (.int .u64 l) := by rw [(bcell hb1).1 _ _ (by simp)]; go_simp
       have e2 : w1.cell? ⟨W.heap.size, 2, none⟩ = some (.bool p) := by rw [(bcell hb1).1 _ _ (by simp)]; go_simp)
    | ((with_reducible refine (c2.go _).mono ?_); rintro e w2 ⟨rfl, hb2⟩
       have hz2 : W.heap.size < w2.heap.size := by have := hb2.1.size; omega
       have f0 : w2.cell? ⟨W.heap.size, 0, none⟩ = some (.int .u64 a) := by rw [(bcell hb2).1 _ _ hz1]; exact e0
       have f1 : w2.cell? ⟨W.heap.size, 1, none⟩ = some (.int .u64 l) := by rw [(bcell hb2).1 _ _ hz1]; exact e1
       have f2 : w2.cell? ⟨W.heap.size, 2, none⟩ = some (.bool p) := by rw [(bcell hb2).1 _ _ hz1]; exact e2))
  all_goals go_ret
  all_goals refine ⟨ret_bool ?_, ((((Kept.refl W).alloc _ _).trans hb1).trans hb2).alloc _ _⟩
  all_goals clear hb1 hb2 c1 c2
  all_goals simp_all

theorem agg_beq (x y : Int) : (mag x / 18446744073709551616 == mag y / 18446744073709551616 && (mag x % 18446744073709551616 == mag y % 18446744073709551616 && decide (x < 0) == decide (y < 0))) = (x == y) := by
  rw [Bool.eq_iff_iff]
  simp only [Bool.and_eq_true, beq_iff_eq, decide_eq_decide]
  unfold mag
  split <;> split <;> omega
/-- Is a whole number one of the width, read with a sign, or without? -/
theorem fits_of (w z : Int) (h1 : 1 ≤ w) (h2 : w ≤ 64) (sign : Bool) :
    Makes 78 #[.int .i64 w, bigOf z, .bool sign] (.bool (if sign then sgn w (z % pw w.toNat) == z else z % pw w.toNat == z)) := by
  intro W
  have hm := mod_u64 z h1 h2
  have c1 := Wrapped_of w z h1 h2
  have e : z % pw w.toNat % pw w.toNat = z % pw w.toNat := Int.emod_emod _ _
  cases sign
  · have c2 := Plain_of w (z % pw w.toNat) h1 h2 hm.1 hm.2
    rw [e] at c2
    simp only [Bool.false_eq_true, if_false]
    rw [← agg_beq]
    exact fits_f _ _ _ _ _ _ _ _ W c1 c2
  · have c2 := With_of w (z % pw w.toNat) h1 h2 hm.1 hm.2
    simp only [if_true]
    rw [← agg_beq]
    exact fits_t _ _ _ _ _ _ _ _ W c1 c2
end Go.Proofs.Ytpjfkmaceaikbaa
