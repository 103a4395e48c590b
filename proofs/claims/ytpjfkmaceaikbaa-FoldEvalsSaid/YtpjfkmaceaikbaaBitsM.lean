/- Plain arithmetic for package bits: powers of two, numbers of a width, numbers read with a sign. Nothing of the translated program stands here. -/
import Derived.WalkKit
import Derived.Test.YtpjfkmaceaikbaaBaseA
namespace Go.Proofs.Ytpjfkmaceaikbaa
open Go.RowKit

def isW (w : Int) : Bool := decide (1 ≤ w ∧ w ≤ 64)
theorem isW_iff {w : Int} : isW w = true ↔ 1 ≤ w ∧ w ≤ 64 := by simp [isW]
theorem isW_not {w : Int} : isW w = false ↔ ¬ (1 ≤ w ∧ w ≤ 64) := by simp only [isW, decide_eq_false_iff_not]

/-- 2 to the power n. -/
def pw (n : Nat) : Int := 2 ^ n
theorem pw_eq (n : Nat) : (2 : Int) ^ n = pw n := rfl
theorem pw_pos (n : Nat) : 0 < pw n := Int.pow_pos (by decide)
theorem pw_add (m n : Nat) : pw (m + n) = pw m * pw n := Int.pow_add 2 m n
theorem pw_succ (n : Nat) : pw (n + 1) = 2 * pw n := by rw [pw_add, Int.mul_comm]; rfl
theorem pw_0 : pw 0 = 1 := rfl
theorem pw_63 : pw 63 = 9223372036854775808 := by decide +kernel
theorem pw_64 : pw 64 = 18446744073709551616 := by decide +kernel
theorem pw_half {n : Nat} (h : 1 ≤ n) : pw n = 2 * pw (n - 1) := by
  obtain ⟨m, rfl⟩ : ∃ m, n = m + 1 := ⟨n - 1, by omega⟩
  exact pw_succ m
theorem pw_mono {m n : Nat} (h : m ≤ n) : pw m ≤ pw n := by
  obtain ⟨d, rfl⟩ : ∃ d, n = m + d := ⟨n - m, by omega⟩
  rw [pw_add]
  have h1 := pw_pos m
  have h2 := pw_pos d
  have := Int.mul_le_mul_of_nonneg_left (show 1 ≤ pw d by omega) (show 0 ≤ pw m by omega)
  omega
theorem pw_le64 {n : Nat} (h : n ≤ 64) : pw n ≤ 18446744073709551616 := pw_64 ▸ pw_mono h
theorem pw_le63 {n : Nat} (h : n ≤ 63) : pw n ≤ 9223372036854775808 := pw_63 ▸ pw_mono h
theorem pw_dvd64 {n : Nat} (h : n ≤ 64) : pw n * pw (64 - n) = 18446744073709551616 := by
  rw [← pw_add, show n + (64 - n) = 64 by omega]; exact pw_64
theorem pw_dvd63 {n : Nat} (h1 : 1 ≤ n) (h : n ≤ 64) : pw (n - 1) * pw (64 - n) = 9223372036854775808 := by
  rw [← pw_add, show n - 1 + (64 - n) = 63 by omega]; exact pw_63

def msk (w : Int) : Int := if isW w then pw w.toNat - 1 else 0
theorem msk_in {w : Int} (h1 : 1 ≤ w) (h2 : w ≤ 64) : msk w = pw w.toNat - 1 := by rw [msk, isW_iff.2 ⟨h1, h2⟩]; rfl
theorem msk_raw (w : Int) (h1 : 1 ≤ w) (h2 : w ≤ 64) : 18446744073709551615 / 2 ^ (64 - w).toNat = msk w := by
  rw [msk_in h1 h2, show (64 - w).toNat = 64 - w.toNat by omega, pw_eq]
  have h := pw_dvd64 (n := w.toNat) (by omega)
  have hp := pw_pos (64 - w.toNat)
  have hq := pw_pos w.toNat
  generalize pw w.toNat = N at *
  generalize pw (64 - w.toNat) = K at *
  have e : (18446744073709551615 : Int) = (K - 1) + K * (N - 1) := by rw [Int.mul_sub, Int.mul_comm K N, h]; omega
  rw [e, Int.add_mul_ediv_left _ _ (by omega), Int.ediv_eq_zero_of_lt (by omega) (by omega)]; omega

/-- A number of width n, read with a sign. -/
def sg (n : Nat) (x : Int) : Int := if x < pw (n - 1) then x else x - pw n
/-- What Signed answers. -/
def sgn (w v : Int) : Int := if isW w then sg w.toNat (v % pw w.toNat) else 0
theorem sgn_in {w : Int} (v : Int) (h1 : 1 ≤ w) (h2 : w ≤ 64) : sgn w v = sg w.toNat (v % pw w.toNat) := by rw [sgn, isW_iff.2 ⟨h1, h2⟩]; rfl

theorem u64w (z : Int) : IntKind.u64.wrap z = z % 18446744073709551616 := by simp [IntKind.wrap, IntKind.bits, IntKind.signed]
theorem i64w (z : Int) : wrap64 z = (z + 9223372036854775808) % 18446744073709551616 - 9223372036854775808 := by rw [← IntKind.wrap_i64, IntWalk.i64_left]

theorem sg_shift {n : Nat} (h1 : 1 ≤ n) (h2 : n ≤ 64) (x : Int) (hx : 0 ≤ x) (hx' : x < pw n) :
    wrap64 (pw (64 - n) * x) = pw (64 - n) * sg n x := by
  have h := pw_dvd64 h2
  have g := pw_dvd63 h1 h2
  have hh := pw_half h1
  have hp := pw_pos (64 - n)
  rw [i64w]
  unfold sg
  rw [Int.mul_comm] at h g
  generalize pw (64 - n) = K at *
  generalize pw n = N at *
  generalize pw (n - 1) = H at *
  split
  · have a := Int.mul_lt_mul_of_pos_left (show x < H by assumption) hp
    have b := Int.mul_nonneg (show 0 ≤ K by omega) hx
    omega
  · have a := Int.mul_le_mul_of_nonneg_left (show H ≤ x by omega) (show 0 ≤ K by omega)
    have b := Int.mul_lt_mul_of_pos_left hx' hp
    rw [Int.mul_sub]
    omega

theorem sgn_raw (w v : Int) (h1 : 1 ≤ w) (h2 : w ≤ 64) :
    wrap64 (IntKind.u64.wrap (v * 2 ^ (64 - w).toNat)) / 2 ^ (64 - w).toNat = sgn w v := by
  rw [sgn_in v h1 h2, show (64 - w).toNat = 64 - w.toNat by omega, pw_eq]
  have h := pw_dvd64 (n := w.toNat) (by omega)
  have hp := pw_pos (64 - w.toNat)
  have hq := pw_pos w.toNat
  rw [u64w, ← h, Int.mul_comm v, Int.mul_comm (pw w.toNat), Int.mul_emod_mul_of_pos _ _ hp,
    sg_shift (by omega) (by omega) _ (Int.emod_nonneg _ (by omega)) (Int.emod_lt_of_pos _ hq)]
  exact Int.mul_ediv_cancel_left _ (by omega)

theorem sg_bd {n : Nat} (h1 : 1 ≤ n) {x : Int} (hx : 0 ≤ x) (hx' : x < pw n) : -pw (n - 1) ≤ sg n x ∧ sg n x < pw (n - 1) := by
  have hh := pw_half h1
  unfold sg; split <;> omega
theorem sg_mod {n : Nat} (x : Int) : sg n x % pw n = x % pw n := by
  unfold sg; split
  · rfl
  · rw [Int.sub_emod_right]
theorem sg_inj {n : Nat} (h1 : 1 ≤ n) {x y : Int} (hx : 0 ≤ x) (hx' : x < pw n) (hy : 0 ≤ y) (hy' : y < pw n) : sg n x = sg n y ↔ x = y := by
  have hh := pw_half h1
  unfold sg; constructor
  · intro h; split at h <;> split at h <;> omega
  · rintro rfl; rfl
theorem sgn_bd (w v : Int) : -9223372036854775808 ≤ sgn w v ∧ sgn w v ≤ 9223372036854775807 := by
  unfold sgn; split
  · rename_i h
    obtain ⟨h1, h2⟩ := isW_iff.1 h
    have hq := pw_pos w.toNat
    have := sg_bd (n := w.toNat) (by omega) (Int.emod_nonneg v (show pw w.toNat ≠ 0 by omega)) (Int.emod_lt_of_pos v hq)
    have := pw_le63 (n := w.toNat - 1) (by omega)
    omega
  · omega

def flg (op : Int) : Int :=
  if op = 1 ∨ op = 2 ∨ op = 3 ∨ op = 11 then 3 else if op = 4 ∨ op = 5 ∨ op = 12 ∨ op = 13 then 4 else 0

theorem ret_two {k k' : IntKind} {a b c d : Int} (h : a = b) (h' : c = d) : Ending.returned (.tuple #[.int k a, .int k' c]) = .returned (.tuple #[.int k b, .int k' d]) := by rw [h, h']

/-- How far a number is from 0. -/
def mag (z : Int) : Int := if z < 0 then -z else z
theorem neg_raw (s : Int) (h : -9223372036854775808 ≤ s) (h' : s < 0) : IntKind.u64.wrap (-IntKind.u64.wrap s) = mag s := by
  rw [u64w, u64w, mag, if_pos h']; omega
theorem mag_raw (w v : Int) (h1 : 1 ≤ w) (h2 : w ≤ 64) (hv : 0 ≤ v) (hv' : v < pw w.toNat) (hs : ¬ sgn w v < 0) : v = mag (sgn w v) := by
  rw [mag, if_neg hs]
  rw [sgn_in v h1 h2, Int.emod_eq_of_lt hv hv'] at hs ⊢
  have := pw_half (n := w.toNat) (by omega)
  unfold sg at *
  split at hs <;> simp_all
  omega
theorem exceeds_raw (a b l : Int) (h : 1 ≤ a) : (a != 0 && decide (l / a < b)) = decide (l < a * b) := by
  have e : (a != 0) = true := by simp; omega
  rw [e, Bool.true_and]
  congr 1
  rw [Int.mul_comm]
  exact propext (Int.ediv_lt_iff_lt_mul (by omega))

theorem wraps_u64 (n : Int) (h₀ : 0 ≤ n) (h₁ : n < 2 ^ 64) : IntKind.u64.wrap n = n := by rw [u64w]; omega
theorem and_msk (w z : Int) (h1 : 1 ≤ w) (h2 : w ≤ 64) (hz : 0 ≤ z) (hz' : z < 18446744073709551616) : bits .and .u64 z (msk w) = z % pw w.toNat := by
  rw [msk_in h1 h2]
  exact bits_mask .u64 64 (by decide) wraps_u64 w.toNat (by omega) z hz (by omega)
theorem and_msk_wrap (w z : Int) (h1 : 1 ≤ w) (h2 : w ≤ 64) : bits .and .u64 (IntKind.u64.wrap z) (msk w) = z % pw w.toNat := by
  have := u64w z
  rw [and_msk w _ h1 h2 (by omega) (by omega), this]
  exact Int.emod_emod_of_dvd _ ⟨_, (pw_dvd64 (n := w.toNat) (by omega)).symm⟩
theorem sg_nz {n : Nat} (h1 : 1 ≤ n) {b : Int} (_hb : 0 ≤ b) (hb' : b < pw n) (h0 : b ≠ 0) : ¬ sg n b = 0 := by
  have hh := pw_half h1
  unfold sg; split <;> omega
theorem wrap64_mod {n : Nat} (h2 : n ≤ 64) (z : Int) : wrap64 z % pw n = z % pw n := by
  have hd := pw_dvd64 h2
  obtain ⟨q, hq⟩ : ∃ q : Int, wrap64 z = z + 18446744073709551616 * q := ⟨-((z + 9223372036854775808) / 18446744073709551616), by rw [i64w]; omega⟩
  rw [hq, ← hd, Int.mul_assoc, Int.add_mul_emod_self_left]
theorem quo_raw {w z : Int} (h1 : 1 ≤ w) (h2 : w ≤ 64) : bits .and .u64 (IntKind.u64.wrap (wrap64 z)) (msk w) = z % pw w.toNat := by
  rw [and_msk_wrap _ _ h1 h2, wrap64_mod (by omega)]
/-- What a comparison tells of two numbers, and of the two read with a sign. -/
def cmpB (op a b s t : Int) : Bool :=
  if op = 14 then a == b else if op = 15 then a != b else if op = 16 then decide (a < b) else if op = 17 then decide (a ≤ b) else if op = 18 then decide (s < t) else decide (s ≤ t)

/-- How an operation without flags ends, of two numbers of width n. -/
def plE (n : Nat) (op x y : Int) : Int :=
  if op = 4 ∨ op = 6 then (if y = 0 then 2 else 0)
  else if op = 5 ∨ op = 7 then (if y = 0 ∨ (x = pw (n - 1) ∧ y = pw n - 1) then 2 else 0)
  else if op = 11 ∨ op = 12 ∨ op = 13 then (if (n : Int) ≤ y then 1 else 0)
  else 0
/-- The number with which it ends, if it ends with one. -/
def plV (n : Nat) (op x y : Int) : Int :=
  if op = 1 then (x + y) % pw n else if op = 2 then (x - y) % pw n else if op = 3 then (x * y) % pw n
  else if op = 4 then x / y else if op = 5 then (sg n x).tdiv (sg n y) % pw n else if op = 6 then x % y else if op = 7 then (sg n x).tmod (sg n y) % pw n
  else if op = 8 then bits .and .u64 x y else if op = 9 then bits .or .u64 x y else if op = 10 then bits .xor .u64 x y
  else if op = 11 then x * pw y.toNat % pw n else if op = 12 then x / pw y.toNat else if op = 13 then sg n x / pw y.toNat % pw n
  else if cmpB op x y (sg n x) (sg n y) then 1 else 0
def plR (n : Nat) (op x y : Int) : Int := if plE n op x y = 0 then plV n op x y else 0
/-- The exact sum, difference, product, or number shifted to the left. -/
def ex (op x y : Int) : Int := if op = 1 then x + y else if op = 2 then x - y else if op = 3 then x * y else x * pw y.toNat
/-- Is the exact result no number of the width? -/
def wrB (n : Nat) (op x y : Int) : Bool := !decide (0 ≤ ex op x y ∧ ex op x y < pw n)
/-- Is the exact result of the numbers read with a sign no such number? -/
def wsB (n : Nat) (op x y : Int) : Bool :=
  !decide (-pw (n - 1) ≤ ex op (sg n x) (if op = 11 then y else sg n y) ∧ ex op (sg n x) (if op = 11 then y else sg n y) < pw (n - 1))
/-- Is there a rest? -/
def lrB (n : Nat) (op x y : Int) : Bool :=
  if op = 4 then x % y != 0 else if op = 5 then (sg n x).tmod (sg n y) != 0 else x % pw y.toNat != 0
theorem wrB1_raw {w a b : Int} (hm : msk w = pw w.toNat - 1) (ha : 0 ≤ a) (hb : 0 ≤ b) : decide (msk w - a < b) = wrB w.toNat 1 a b := by
  rw [hm, Bool.eq_iff_iff]; simp only [wrB, ex, Bool.not_eq_true', decide_eq_true_eq, decide_eq_false_iff_not, if_true]; omega
theorem wrB2_raw {w a b : Int} (_ha : 0 ≤ a) (ha' : a < pw w.toNat) (hb : 0 ≤ b) : decide (a < b) = wrB w.toNat 2 a b := by
  rw [Bool.eq_iff_iff]; simp [wrB, ex]; omega
theorem wrB3_raw {w a b : Int} (hm : msk w = pw w.toNat - 1) (ha : 0 ≤ a) (hb : 0 ≤ b) : decide (msk w < a * b) = wrB w.toNat 3 a b := by
  have := Int.mul_nonneg ha hb
  rw [hm, Bool.eq_iff_iff]; simp [wrB, ex]; omega
theorem wrB11_raw {w a b : Int} (hm : msk w = pw w.toNat - 1) (ha : 0 ≤ a) : decide (msk w / 2 ^ b.toNat < a) = wrB w.toNat 11 a b := by
  have hp := pw_pos b.toNat
  have := Int.mul_nonneg ha (show 0 ≤ pw b.toNat by omega)
  rw [hm, Bool.eq_iff_iff, pw_eq]; simp [wrB, ex, Int.ediv_lt_iff_lt_mul hp]; omega
theorem lrB_raw {n : Nat} {op a b : Int} (ho : op = 12 ∨ op = 13) (ha : 0 ≤ a) (ha' : a ≤ 18446744073709551615) : (IntKind.u64.wrap (a / 2 ^ b.toNat * 2 ^ b.toNat) != a) = lrB n op a b := by
  have hp := pw_pos b.toNat
  have h1 := Int.emod_add_mul_ediv a (pw b.toNat)
  have h2 := Int.emod_nonneg a (show pw b.toNat ≠ 0 by omega)
  have h3 : 0 ≤ pw b.toNat * (a / pw b.toNat) := Int.mul_nonneg (by omega) (Int.ediv_nonneg ha (by omega))
  rw [pw_eq, u64w, Int.mul_comm]
  have e : (pw b.toNat * (a / pw b.toNat)) % 18446744073709551616 = a - a % pw b.toNat := by omega
  rw [e, Bool.eq_iff_iff]
  rcases ho with rfl | rfl <;> simp [lrB] <;> omega

theorem add_mod {M x y : Int} (hx : 0 ≤ x) (hx' : x < M) (hy : 0 ≤ y) (hy' : y < M) : ((x + y) % M = x + y ∧ x + y < M) ∨ ((x + y) % M = x + y - M ∧ M ≤ x + y) := by
  by_cases h : x + y < M
  · exact .inl ⟨Int.emod_eq_of_lt (by omega) h, h⟩
  · refine .inr ⟨?_, by omega⟩
    rw [← Int.sub_emod_right, Int.emod_eq_of_lt (by omega) (by omega)]
theorem sub_mod {M x y : Int} (hx : 0 ≤ x) (hx' : x < M) (hy : 0 ≤ y) (hy' : y < M) : ((x - y) % M = x - y ∧ y ≤ x) ∨ ((x - y) % M = x - y + M ∧ x < y) := by
  by_cases h : y ≤ x
  · exact .inl ⟨Int.emod_eq_of_lt (by omega) (by omega), h⟩
  · refine .inr ⟨?_, by omega⟩
    rw [← Int.add_emod_right, Int.emod_eq_of_lt (by omega) (by omega)]
theorem sgn_wrap {w z : Int} (h1 : 1 ≤ w) (h2 : w ≤ 64) : sgn w (IntKind.u64.wrap z) = sg w.toNat (z % pw w.toNat) := by
  rw [sgn_in _ h1 h2, u64w, Int.emod_emod_of_dvd _ ⟨_, (pw_dvd64 (n := w.toNat) (by omega)).symm⟩]
theorem sgn_red {w a : Int} (h1 : 1 ≤ w) (h2 : w ≤ 64) (ha : 0 ≤ a) (ha' : a < pw w.toNat) : sgn w a = sg w.toNat a := by
  rw [sgn_in _ h1 h2, Int.emod_eq_of_lt ha ha']

theorem ws1_raw {w a b : Int} (h1 : 1 ≤ w) (h2 : w ≤ 64) (ha : 0 ≤ a) (ha' : a < pw w.toNat) (hb : 0 ≤ b) (hb' : b < pw w.toNat) :
    ((decide (sgn w a < 0) == decide (sgn w b < 0)) && (decide (sgn w (IntKind.u64.wrap (a + b)) < 0) != decide (sgn w a < 0))) = wsB w.toNat 1 a b := by
  have hh := pw_half (n := w.toNat) (by omega)
  have hc := add_mod ha ha' hb hb'
  rw [sgn_wrap h1 h2, sgn_red h1 h2 ha ha', sgn_red h1 h2 hb hb', Bool.eq_iff_iff]
  generalize (a + b) % pw w.toNat = r at *
  simp only [wsB, ex, Bool.and_eq_true, beq_iff_eq, bne_iff_ne, ne_eq, decide_eq_decide, Bool.not_eq_true', decide_eq_false_iff_not, if_true, show ¬ (1 : Int) = 11 by decide, if_false]
  unfold sg
  generalize pw w.toNat = M at *
  generalize pw (w.toNat - 1) = H at *
  repeat' split
  all_goals omega
theorem ws2_raw {w a b : Int} (h1 : 1 ≤ w) (h2 : w ≤ 64) (ha : 0 ≤ a) (ha' : a < pw w.toNat) (hb : 0 ≤ b) (hb' : b < pw w.toNat) :
    ((decide (sgn w a < 0) != decide (sgn w b < 0)) && (decide (sgn w (IntKind.u64.wrap (a - b)) < 0) != decide (sgn w a < 0))) = wsB w.toNat 2 a b := by
  have hh := pw_half (n := w.toNat) (by omega)
  have hc := sub_mod ha ha' hb hb'
  rw [sgn_wrap h1 h2, sgn_red h1 h2 ha ha', sgn_red h1 h2 hb hb', Bool.eq_iff_iff]
  generalize (a - b) % pw w.toNat = r at *
  simp only [wsB, ex, Bool.and_eq_true, bne_iff_ne, ne_eq, decide_eq_decide, Bool.not_eq_true', decide_eq_false_iff_not, if_true, show ¬ (2 : Int) = 11 by decide, show ¬ (2 : Int) = 1 by decide, if_false]
  unfold sg
  generalize pw w.toNat = M at *
  generalize pw (w.toNat - 1) = H at *
  repeat' split
  all_goals omega
theorem ws3_raw {w a b : Int} (h1 : 1 ≤ w) (h2 : w ≤ 64) (ha : 0 ≤ a) (ha' : a < pw w.toNat) (hb : 0 ≤ b) (hb' : b < pw w.toNat) :
    decide ((if decide (sgn w a < 0) = decide (sgn w b < 0) then pw (w.toNat - 1) - 1 else pw (w.toNat - 1)) < mag (sgn w a) * mag (sgn w b)) = wsB w.toNat 3 a b := by
  rw [sgn_red h1 h2 ha ha', sgn_red h1 h2 hb hb', Bool.eq_iff_iff]
  have hp := pw_pos (w.toNat - 1)
  simp only [wsB, ex, Bool.not_eq_true', decide_eq_true_eq, decide_eq_false_iff_not, if_true, show ¬ (3 : Int) = 11 by decide, show ¬ (3 : Int) = 1 by decide, show ¬ (3 : Int) = 2 by decide, if_false]
  generalize sg w.toNat a = s
  generalize sg w.toNat b = t
  generalize pw (w.toNat - 1) = H at *
  unfold mag
  by_cases hs : s < 0 <;> by_cases ht : t < 0 <;> simp only [hs, ht, if_true, if_false, decide_true, decide_false, Bool.true_eq_false, Bool.false_eq_true]
  · have := Int.mul_pos_of_neg_of_neg hs ht
    rw [Int.neg_mul_neg]; omega
  · have := Int.mul_nonneg (show 0 ≤ -s by omega) (show 0 ≤ t by omega)
    rw [Int.neg_mul] at *; omega
  · have := Int.mul_nonneg (show 0 ≤ s by omega) (show 0 ≤ -t by omega)
    rw [Int.mul_neg] at *; omega
  · have := Int.mul_nonneg (show 0 ≤ s by omega) (show 0 ≤ t by omega)
    omega
theorem sg_uniq {n : Nat} (h1 : 1 ≤ n) {z s : Int} (e : ∃ q, z = s + pw n * q) (hs : -pw (n - 1) ≤ s) (hs' : s < pw (n - 1)) : sg n (z % pw n) = s := by
  have hh := pw_half h1
  obtain ⟨q, rfl⟩ := e
  rw [Int.add_mul_emod_self_left]
  by_cases h0 : 0 ≤ s
  · rw [Int.emod_eq_of_lt h0 (by omega)]; unfold sg; rw [if_pos hs']
  · rw [← Int.add_emod_right, Int.emod_eq_of_lt (by omega) (by omega)]; unfold sg; rw [if_neg (by omega)]; omega
theorem sg_cong {n : Nat} (x : Int) : ∃ q, x = sg n x + pw n * q := by
  unfold sg; split
  · exact ⟨0, by omega⟩
  · exact ⟨1, by omega⟩
theorem sg_modcong {n : Nat} (x : Int) : ∃ q, sg n (x % pw n) = x + pw n * q := by
  obtain ⟨q, hq⟩ := sg_cong (n := n) (x % pw n)
  have := Int.emod_add_mul_ediv x (pw n)
  exact ⟨-(x / pw n) - q, by rw [Int.mul_sub, Int.mul_neg]; omega⟩
theorem ws11_raw {w a b : Int} (h1 : 1 ≤ w) (h2 : w ≤ 64) (ha : 0 ≤ a) (ha' : a < pw w.toNat) (_hb : 0 ≤ b) (hb' : b < w) :
    (sgn w (IntKind.u64.wrap (a * 2 ^ b.toNat)) / 2 ^ b.toNat != sgn w a) = wsB w.toNat 11 a b := by
  rw [sgn_wrap h1 h2, sgn_red h1 h2 ha ha', Bool.eq_iff_iff]
  simp only [wsB, ex, pw_eq, bne_iff_ne, ne_eq, Bool.not_eq_true', decide_eq_false_iff_not, if_true, show ¬ (11 : Int) = 1 by decide, show ¬ (11 : Int) = 2 by decide, show ¬ (11 : Int) = 3 by decide, if_false]
  have hp := pw_pos b.toNat
  refine not_congr ⟨fun h => ?_, fun h => ?_⟩
  · obtain ⟨q, hq⟩ := sg_modcong (n := w.toNat) (a * pw b.toNat)
    obtain ⟨q', hq'⟩ := sg_cong (n := w.toNat) a
    have hM : pw w.toNat = pw b.toNat * pw (w.toNat - b.toNat) := by rw [← pw_add]; congr 1; omega
    have hbd := sg_bd (n := w.toNat) (by omega) (Int.emod_nonneg (a * pw b.toNat) (show pw w.toNat ≠ 0 by have := pw_pos w.toNat; omega)) (Int.emod_lt_of_pos _ (pw_pos w.toNat))
    generalize sg w.toNat (a * pw b.toNat % pw w.toNat) = t at *
    have ht : t = pw b.toNat * (a + pw (w.toNat - b.toNat) * q) := by rw [hq, hM, Int.mul_add, Int.mul_comm a, Int.mul_assoc]
    have : t / pw b.toNat = a + pw (w.toNat - b.toNat) * q := by rw [ht, Int.mul_ediv_cancel_left _ (by omega)]
    rw [← h, this, Int.mul_comm, ← ht]
    exact hbd
  · rw [sg_uniq (n := w.toNat) (by omega) ?_ h.1 h.2, Int.mul_ediv_cancel _ (by omega)]
    obtain ⟨q, hq⟩ := sg_cong (n := w.toNat) a
    generalize sg w.toNat a = s at *
    exact ⟨q * pw b.toNat, by rw [hq, Int.add_mul, Int.mul_assoc]⟩
/-- Does a flag make poison of it? -/
def brB (n : Nat) (op fl x y : Int) : Bool :=
  (decide (fl = 2 ∨ fl = 3) && wrB n op x y) || (decide (fl = 1 ∨ fl = 3) && wsB n op x y) || (decide (fl = 4) && lrB n op x y)
/-- How an operation with flags ends, of two numbers of width n; the number. -/
def aplE (n : Nat) (op fl x y : Int) : Int := if plE n op x y = 0 then (if brB n op fl x y then 1 else 0) else plE n op x y
def aplR (n : Nat) (op fl x y : Int) : Int := if aplE n op fl x y = 0 then plV n op x y else 0
theorem plE_lt {w op x y : Int} (h1 : 1 ≤ w) (ho : op = 11 ∨ op = 12 ∨ op = 13) (h : plE w.toNat op x y = 0) : y < w := by
  have : ((w.toNat : Nat) : Int) = w := by omega
  rcases ho with rfl | rfl | rfl <;> simp [plE] at h <;> omega
theorem plE_nz {n : Nat} {op x y : Int} (ho : op = 4 ∨ op = 5) (h : plE n op x y = 0) : y ≠ 0 := by
  rcases ho with rfl | rfl <;> rintro rfl <;> simp [plE] at h
/-- Is there such a conversion; the number that it makes. -/
def cvB (op f t : Int) : Bool := isW f && isW t && ((decide (op = 20) && decide (f < t)) || (decide (op = 21) && decide (f < t)) || (decide (op = 22) && decide (t < f)))
def cvV (op f t v : Int) : Int := if cvB op f t then (if op = 20 then v % pw f.toNat else if op = 21 then sgn f v % pw t.toNat else v % pw t.toNat) else 0
end Go.Proofs.Ytpjfkmaceaikbaa
