/- Which flags a mask leaves (plain numbers). -/
import Derived.Test.YtpjfkmaceaikbaaBitsM
namespace Go.Proofs.Ytpjfkmaceaikbaa
open Go.RowKit
set_option linter.unusedVariables false
set_option linter.unusedSimpArgs false

theorem andNot_bit {fl F : Int} (h : bits .andNot .i64 fl F = 0) (i : Nat) (hi : (BitVec.ofInt 64 fl).toNat.testBit i = true) : (BitVec.ofInt 64 F).toNat.testBit i = true := by
  have hx : IntKind.i64.wrap (((BitVec.ofInt 64 fl) &&& ~~~(BitVec.ofInt 64 F)).toNat : Int) = 0 := h
  rw [IntKind.wrap_i64] at hx
  have hlt : ((BitVec.ofInt 64 fl) &&& ~~~(BitVec.ofInt 64 F)).toNat < 2 ^ 64 := BitVec.isLt _
  have hz : ((BitVec.ofInt 64 fl) &&& ~~~(BitVec.ofInt 64 F)).toNat = 0 := by
    have : (2 : Nat) ^ 64 = 18446744073709551616 := by decide
    omega
  have hi64 : i < 64 := by
    by_cases h64 : i < 64
    · exact h64
    · have : (BitVec.ofInt 64 fl).toNat < 2 ^ i := Nat.lt_of_lt_of_le (BitVec.isLt _) (Nat.pow_le_pow_right (by decide) (by omega))
      rw [Nat.testBit_lt_two_pow this] at hi
      exact absurd hi (by decide)
  have hb : ((BitVec.ofInt 64 fl) &&& ~~~(BitVec.ofInt 64 F)).getLsbD i = false := by
    rw [← BitVec.testBit_toNat, hz, Nat.zero_testBit]
  rw [BitVec.getLsbD_and, BitVec.getLsbD_not, ← BitVec.testBit_toNat, hi, decide_eq_true hi64] at hb
  rw [BitVec.testBit_toNat]
  simpa using hb
theorem ofInt_small {fl : Int} (h0 : -9223372036854775808 ≤ fl) (h1 : fl ≤ 9223372036854775807) {n : Nat} (hn : n < 9223372036854775808) (h : (BitVec.ofInt 64 fl).toNat = n) : fl = n := by
  rw [BitVec.toNat_ofInt] at h
  have : ((2 ^ 64 : Nat) : Int) = 18446744073709551616 := by decide
  rw [this] at h
  omega
theorem flags_0 {fl : Int} (h0 : -9223372036854775808 ≤ fl) (h1 : fl ≤ 9223372036854775807) (h : bits .andNot .i64 fl 0 = 0) : fl = 0 := by
  have hb := andNot_bit h
  refine ofInt_small h0 h1 (n := 0) (by decide) ?_
  refine Nat.lt_one_iff.1 (Nat.lt_pow_two_of_testBit (n := 0) _ fun i _ => ?_)
  cases hi : (BitVec.ofInt 64 fl).toNat.testBit i
  · rfl
  · have := hb i hi
    simp at this
theorem flags_3 {fl : Int} (h0 : -9223372036854775808 ≤ fl) (h1 : fl ≤ 9223372036854775807) (h : bits .andNot .i64 fl 3 = 0) : fl = 0 ∨ fl = 1 ∨ fl = 2 ∨ fl = 3 := by
  have hb := andNot_bit h
  have hF : (BitVec.ofInt 64 3).toNat = 3 := by decide +kernel
  rw [hF] at hb
  have hl : (BitVec.ofInt 64 fl).toNat < 2 ^ 2 := Nat.lt_pow_two_of_testBit _ fun i hi2 => by
    cases hi : (BitVec.ofInt 64 fl).toNat.testBit i
    · rfl
    · have := hb i hi
      rw [Nat.testBit_lt_two_pow (Nat.lt_of_lt_of_le (show 3 < 2 ^ 2 by decide) (Nat.pow_le_pow_right (by decide) hi2))] at this
      exact absurd this (by decide)
  have := ofInt_small h0 h1 (n := (BitVec.ofInt 64 fl).toNat) (by omega) rfl
  omega
theorem flags_4 {fl : Int} (h0 : -9223372036854775808 ≤ fl) (h1 : fl ≤ 9223372036854775807) (h : bits .andNot .i64 fl 4 = 0) : fl = 0 ∨ fl = 4 := by
  have hb := andNot_bit h
  have hF : (BitVec.ofInt 64 4).toNat = 4 := by decide +kernel
  rw [hF] at hb
  have hl : (BitVec.ofInt 64 fl).toNat < 2 ^ 3 := Nat.lt_pow_two_of_testBit _ fun i hi2 => by
    cases hi : (BitVec.ofInt 64 fl).toNat.testBit i
    · rfl
    · have := hb i hi
      rw [Nat.testBit_lt_two_pow (Nat.lt_of_lt_of_le (show 4 < 2 ^ 3 by decide) (Nat.pow_le_pow_right (by decide) hi2))] at this
      exact absurd this (by decide)
  have e := ofInt_small h0 h1 (n := (BitVec.ofInt 64 fl).toNat) (by omega) rfl
  have t0 := hb 0
  have t1 := hb 1
  generalize (BitVec.ofInt 64 fl).toNat = n at *
  have : n = 0 ∨ n = 1 ∨ n = 2 ∨ n = 3 ∨ n = 4 ∨ n = 5 ∨ n = 6 ∨ n = 7 := by omega
  rcases this with rfl | rfl | rfl | rfl | rfl | rfl | rfl | rfl
  · exact .inl e
  · exact absurd (t0 (by decide)) (by decide)
  · exact absurd (t1 (by decide)) (by decide)
  · exact absurd (t0 (by decide)) (by decide)
  · exact .inr e
  · exact absurd (t0 (by decide)) (by decide)
  · exact absurd (t1 (by decide)) (by decide)
  · exact absurd (t0 (by decide)) (by decide)

end Go.Proofs.Ytpjfkmaceaikbaa
