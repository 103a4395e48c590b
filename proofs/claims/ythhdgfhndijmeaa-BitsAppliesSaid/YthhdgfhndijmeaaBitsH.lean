/- What the law's function of answers of divisions, logic, shifts and comparisons. -/
import Derived.Test.YthhdgfhndijmeaaBitsG
namespace Go.Proofs.Ythhdgfhndijmeaa
open Go.RowKit
set_option linter.unusedVariables false

theorem of_cmp (op w a b : Int) (ho : op = 14 ∨ op = 15 ∨ op = 16 ∨ op = 17 ∨ op = 18 ∨ op = 19) (h1 : 1 ≤ w) (h2 : w ≤ 64) (ha : 0 ≤ a) (ha' : a ≤ 18446744073709551615) (hb : 0 ≤ b) (hb' : b ≤ 18446744073709551615) :
    Gives 24 #[.int .i64 op, .int .i64 w, .int .u64 a, .int .u64 b] (.int .u64 (if cmpB op (a % pw w.toNat) (b % pw w.toNat) (sgn w a) (sgn w b) then 1 else 0)) := by
  rw [sgn_in a h1 h2, sgn_in b h1 h2]
  rcases ho with rfl | rfl | rfl | rfl | rfl | rfl
  · exact (of_gen (Apply_14 w 0 a b h1 h2 ha ha' hb hb' rfl)).as (one_eq (by simp [aplR, aplE, plE, plV, brB]))
  · exact (of_gen (Apply_15 w 0 a b h1 h2 ha ha' hb hb' rfl)).as (one_eq (by simp [aplR, aplE, plE, plV, brB]))
  · exact (of_gen (Apply_16 w 0 a b h1 h2 ha ha' hb hb' rfl)).as (one_eq (by simp [aplR, aplE, plE, plV, brB]))
  · exact (of_gen (Apply_17 w 0 a b h1 h2 ha ha' hb hb' rfl)).as (one_eq (by simp [aplR, aplE, plE, plV, brB]))
  · exact (of_gen (Apply_18 w 0 a b h1 h2 ha ha' hb hb' rfl)).as (one_eq (by simp [aplR, aplE, plE, plV, brB]))
  · exact (of_gen (Apply_19 w 0 a b h1 h2 ha ha' hb hb' rfl)).as (one_eq (by simp [aplR, aplE, plE, plV, brB]))
theorem of_8 (w a b : Int) (h1 : 1 ≤ w) (h2 : w ≤ 64) (ha : 0 ≤ a) (ha' : a ≤ 18446744073709551615) (hb : 0 ≤ b) (hb' : b ≤ 18446744073709551615) :
    Gives 24 #[.int .i64 8, .int .i64 w, .int .u64 a, .int .u64 b] (.int .u64 (bits .and .u64 (a % pw w.toNat) (b % pw w.toNat))) :=
  (of_gen (Apply_8 w 0 a b h1 h2 ha ha' hb hb' rfl)).as (one_eq (by simp [aplR, aplE, plE, plV, brB]))
theorem of_9 (w a b : Int) (h1 : 1 ≤ w) (h2 : w ≤ 64) (ha : 0 ≤ a) (ha' : a ≤ 18446744073709551615) (hb : 0 ≤ b) (hb' : b ≤ 18446744073709551615) :
    Gives 24 #[.int .i64 9, .int .i64 w, .int .u64 a, .int .u64 b] (.int .u64 (bits .or .u64 (a % pw w.toNat) (b % pw w.toNat))) :=
  (of_gen (Apply_9 w 0 a b h1 h2 ha ha' hb hb' rfl)).as (one_eq (by simp [aplR, aplE, plE, plV, brB]))
theorem of_10 (w a b : Int) (h1 : 1 ≤ w) (h2 : w ≤ 64) (ha : 0 ≤ a) (ha' : a ≤ 18446744073709551615) (hb : 0 ≤ b) (hb' : b ≤ 18446744073709551615) :
    Gives 24 #[.int .i64 10, .int .i64 w, .int .u64 a, .int .u64 b] (.int .u64 (bits .xor .u64 (a % pw w.toNat) (b % pw w.toNat))) :=
  (of_gen (Apply_10 w 0 a b h1 h2 ha ha' hb hb' rfl)).as (one_eq (by simp [aplR, aplE, plE, plV, brB]))
/-- A reduced count: the count itself. -/
theorem count_mod {w n : Int} (h1 : 1 ≤ w) (h2 : w ≤ 64) (hn : 0 ≤ n) (hn' : n < w) : n % pw w.toNat = n := by
  refine Int.emod_eq_of_lt hn ?_
  have key : ∀ k : Nat, k < 65 → (k : Int) < pw k := by decide +kernel
  have := key w.toNat (by omega)
  omega
theorem of_4 (w a b : Int) (h1 : 1 ≤ w) (h2 : w ≤ 64) (ha : 0 ≤ a) (ha' : a ≤ 18446744073709551615) (hb : 0 ≤ b) (hb' : b ≤ 18446744073709551615) :
    Gives 24 #[.int .i64 4, .int .i64 w, .int .u64 a, .int .u64 b] (.int .u64 (a % pw w.toNat / (b % pw w.toNat))) :=
  (of_gen (Apply_4 w 0 a b h1 h2 ha ha' hb hb' (by decide))).as (one_eq (by
    by_cases h : b % pw w.toNat = 0 <;> simp [aplR, aplE, plE, plV, brB, h]))
theorem of_11 (w a n : Int) (h1 : 1 ≤ w) (h2 : w ≤ 64) (ha : 0 ≤ a) (ha' : a ≤ 18446744073709551615) (hn : 0 ≤ n) (hn' : n < w) :
    Gives 24 #[.int .i64 11, .int .i64 w, .int .u64 a, .int .u64 n] (.int .u64 (a * pw n.toNat % pw w.toNat)) :=
  (of_gen (Apply_11 w 0 a n h1 h2 ha ha' hn (by omega) (by decide))).as (one_eq (by
    have hc : ¬ ((w.toNat : Nat) : Int) ≤ n := by omega
    rw [count_mod h1 h2 hn hn']
    have hE : plE w.toNat 11 (a % pw w.toNat) n = 0 := by rw [plE, if_neg (by decide), if_neg (by decide), if_pos (by decide), if_neg hc]
    rw [aplR, aplE, if_pos hE]
    simp [brB, plV]
    rw [Int.mul_emod, Int.emod_emod, ← Int.mul_emod]))
theorem of_12 (w a n : Int) (h1 : 1 ≤ w) (h2 : w ≤ 64) (ha : 0 ≤ a) (ha' : a ≤ 18446744073709551615) (hn : 0 ≤ n) (hn' : n < w) :
    Gives 24 #[.int .i64 12, .int .i64 w, .int .u64 a, .int .u64 n] (.int .u64 (a % pw w.toNat / pw n.toNat)) :=
  (of_gen (Apply_12 w 0 a n h1 h2 ha ha' hn (by omega) (by decide))).as (one_eq (by
    have hc : ¬ ((w.toNat : Nat) : Int) ≤ n := by omega
    rw [count_mod h1 h2 hn hn']
    have hE : plE w.toNat 12 (a % pw w.toNat) n = 0 := by rw [plE, if_neg (by decide), if_neg (by decide), if_pos (by decide), if_neg hc]
    simp [aplR, aplE, hE, plV, brB]))
theorem of_13 (w a n : Int) (h1 : 1 ≤ w) (h2 : w ≤ 64) (ha : 0 ≤ a) (ha' : a ≤ 18446744073709551615) (hn : 0 ≤ n) (hn' : n < w) :
    Gives 24 #[.int .i64 13, .int .i64 w, .int .u64 a, .int .u64 n] (.int .u64 (sgn w a / pw n.toNat % pw w.toNat)) :=
  (of_gen (Apply_13 w 0 a n h1 h2 ha ha' hn (by omega) (by decide))).as (one_eq (by
    have hc : ¬ ((w.toNat : Nat) : Int) ≤ n := by omega
    rw [count_mod h1 h2 hn hn', sgn_in a h1 h2]
    have hE : plE w.toNat 13 (a % pw w.toNat) n = 0 := by rw [plE, if_neg (by decide), if_neg (by decide), if_pos (by decide), if_neg hc]
    simp [aplR, aplE, hE, plV, brB]))
end Go.Proofs.Ythhdgfhndijmeaa
