/- Contracts of the document's answers (package latheref01): right and compared, in whole numbers. -/
import Derived.Test.YthhdgfhndijmeaaRefP
namespace Go.Proofs.Ythhdgfhndijmeaa
open Go.RowKit
set_option linter.unusedVariables false
set_option linter.unusedSimpArgs false

theorem plE_sh {n : Nat} {op x y : Int} (ho : op = 12 ∨ op = 13) : plE n op x y = if (n : Int) ≤ y then 1 else 0 := by
  rcases ho with rfl | rfl <;> rfl
theorem tdiv_floor (s P : Int) (hP : 0 < P) : (s.tmod P < 0 ∧ s.tdiv P + -1 = s / P) ∨ (¬ s.tmod P < 0 ∧ s.tdiv P = s / P) := by
  have h1 := Int.emod_nonneg s (show P ≠ 0 by omega)
  have h2 := Int.emod_lt_of_pos s hP
  by_cases h : 0 ≤ s ∨ P ∣ s
  · exact .inr ⟨by rw [Int.tmod_eq_emod, if_pos h]; omega, by rw [Int.tdiv_eq_ediv, if_pos h]; omega⟩
  · refine .inl ⟨by rw [Int.tmod_eq_emod, if_neg h]; omega, ?_⟩
    rw [Int.tdiv_eq_ediv, if_neg h, Int.sign_eq_one_of_pos hP]; omega
theorem sg_rest {n m : Nat} (h : m ≤ n) (x : Int) : ((sg n x).tmod (pw m) != 0) = (x % pw m != 0) := by
  have e : sg n x % pw m = x % pw m := by
    have hd : pw n = pw m * pw (n - m) := by rw [← pw_add]; congr 1; omega
    unfold sg
    split
    · rfl
    · rw [hd]; exact Int.sub_mul_emod_self_left _ _ _
  have i1 : (sg n x).tmod (pw m) = 0 ↔ pw m ∣ sg n x := ⟨fun h => Int.dvd_of_tmod_eq_zero h, fun h => Int.tmod_eq_zero_of_dvd h⟩
  have i2 : sg n x % pw m = 0 ↔ pw m ∣ sg n x := ⟨fun h => Int.dvd_of_emod_eq_zero h, fun h => Int.emod_eq_zero_of_dvd h⟩
  rw [Bool.eq_iff_iff]
  simp only [bne_iff_ne, ne_eq]
  rw [i1, ← i2, e]
theorem big_neg1 : Value.agg #[.int .u64 0, .int .u64 1, .bool true] = bigOf (-1) := by
  unfold bigOf mag; rfl
theorem right_eq {n : Nat} {op fl x y N1 V : Int} (ho : op = 12 ∨ op = 13) (hf : fl = 0 ∨ fl = 4) (hp : plE n op x y = 0) (hr : (N1 != 0) = lrB n op x y) (hV : V = plV n op x y) :
    Value.tuple #[.int .u64 (if decide (fl = 4) && N1 != 0 then 0 else V), .int .i64 (if decide (fl = 4) && N1 != 0 then 1 else 0)] = .tuple #[.int .u64 (aplR n op fl x y), .int .i64 (aplE n op fl x y)] := by
  subst hV
  unfold aplR aplE
  rw [hr, hp, brB_div hf]
  cases decide (fl = 4) && lrB n op x y <;> exact two_eq rfl rfl

theorem right_of (op w fl a b : Int) (ho : op = 12 ∨ op = 13) (hf : fl = 0 ∨ fl = 4) (h1 : 1 ≤ w) (h2 : w ≤ 64) (ha : 0 ≤ a) (ha' : a ≤ 18446744073709551615) (hb : 0 ≤ b) (hb' : b ≤ 18446744073709551615) :
    Makes 33 #[.int .i64 op, .int .i64 w, .int .i64 fl, .int .u64 a, .int .u64 b] (aplT w op fl a b) := by
  intro W
  have hp := pw_pos w.toNat
  have hl := pw_le64 (n := w.toNat) (by omega)
  have x0 := Int.emod_nonneg a (show pw w.toNat ≠ 0 by omega)
  have x1 := Int.emod_lt_of_pos a hp
  have y0 := Int.emod_nonneg b (show pw w.toNat ≠ 0 by omega)
  have c0 := fun W => Cut_any w b W h1 h2 hb hb'
  have hwn : ((w.toNat : Nat) : Int) = w := by omega
  have hE := plE_sh (n := w.toNat) (x := a % pw w.toNat) (y := b % pw w.toNat) ho
  by_cases hy : b % pw w.toNat < w
  · rw [hwn, if_neg (show ¬ w ≤ b % pw w.toNat by omega)] at hE
    have q0 := pw_pos (b % pw w.toNat).toNat
    have q1 := pw_le63 (n := (b % pw w.toNat).toNat) (by omega)
    have c1 := Plain_of w a h1 h2 ha ha'
    have c6 : Makes 50 #[.int .u64 (b % pw w.toNat)] (bigOf (pw (b % pw w.toNat).toNat)) := fun W => power_any _ W y0 (by omega)
    rcases ho with rfl | rfl
    · have e2 : ((a % pw w.toNat).tmod (pw (b % pw w.toNat).toNat)) = a % pw w.toNat % pw (b % pw w.toNat).toNat := Int.tmod_eq_emod_of_nonneg x0
      have r0 := Int.emod_nonneg (a % pw w.toNat) (show pw (b % pw w.toNat).toNat ≠ 0 by omega)
      have c5 := quotient_of (a % pw w.toNat) (pw (b % pw w.toNat).toNat) ⟨by omega, by omega⟩ ⟨by omega, by omega⟩ (by omega)
      have rU := rest_u64 (s := a % pw w.toNat) (t := pw (b % pw w.toNat).toNat) ⟨by omega, by omega⟩
      rw [show bigOf ((a % pw w.toNat).tmod (pw (b % pw w.toNat).toNat)) = .agg #[.int .u64 (mag ((a % pw w.toNat).tmod (pw (b % pw w.toNat).toNat)) / 18446744073709551616), .int .u64 (mag ((a % pw w.toNat).tmod (pw (b % pw w.toNat).toNat)) % 18446744073709551616), .bool false] from by
        unfold bigOf; rw [decide_eq_false (show ¬ (a % pw w.toNat).tmod (pw (b % pw w.toNat).toNat) < 0 by omega)]] at c5
      refine (right_12 _ _ _ _ _ _ _ _ _ _ _ _ _ _ _ _ _ W h1 h2 y0 hy hf c0 c1 c6 c5 (Wrapped_of w _ h1 h2)).mono fun e w' ⟨he, hw⟩ => ⟨?_, hw⟩
      rw [he]
      exact congrArg Ending.returned (right_eq (Or.inl rfl) hf hE (by rw [rU, e2]; rfl) (by rw [quo_mod x0 x1 (by omega)]; rfl))
    · have sb := sgn_bd w a
      have es := sgn_in a h1 h2
      have c2 := With_of w a h1 h2 ha ha'
      have c5 := quotient_of (sgn w a) (pw (b % pw w.toNat).toNat) ⟨by omega, by omega⟩ ⟨by omega, by omega⟩ (by omega)
      have rS := rest_u64 (s := sgn w a) (t := pw (b % pw w.toNat).toNat) ⟨by omega, by omega⟩
      have rr := sg_rest (n := w.toNat) (m := (b % pw w.toNat).toNat) (by omega) (a % pw w.toNat)
      rcases tdiv_floor (sgn w a) (pw (b % pw w.toNat).toNat) q0 with ⟨t1, t2⟩ | ⟨t1, t2⟩
      · rw [show bigOf ((sgn w a).tmod (pw (b % pw w.toNat).toNat)) = .agg #[.int .u64 (mag ((sgn w a).tmod (pw (b % pw w.toNat).toNat)) / 18446744073709551616), .int .u64 (mag ((sgn w a).tmod (pw (b % pw w.toNat).toNat)) % 18446744073709551616), .bool true] from by
          unfold bigOf; rw [decide_eq_true t1]] at c5
        have hq : (sgn w a).tdiv (pw (b % pw w.toNat).toNat) = sgn w a / pw (b % pw w.toNat).toNat + 1 := by omega
        have d1 : -9223372036854775808 ≤ sgn w a / pw (b % pw w.toNat).toNat := by
          refine (Int.le_ediv_iff_mul_le q0).2 ?_
          omega
        have d2 : sgn w a / pw (b % pw w.toNat).toNat ≤ 9223372036854775807 := by
          refine Int.le_of_lt_add_one ((Int.ediv_lt_iff_lt_mul q0).2 ?_)
          omega
        have c8 := Plus_of ((sgn w a).tdiv (pw (b % pw w.toNat).toNat)) (-1) ⟨by omega, by omega⟩ ⟨by omega, by omega⟩ ⟨by omega, by omega⟩
        rw [← big_neg1, t2] at c8
        refine (right_13t _ _ _ _ _ _ _ _ _ _ _ _ _ _ _ _ _ _ _ _ _ _ _ W h1 h2 y0 hy hf c0 c1 c2 c6 c5 c8 (Wrapped_of w _ h1 h2)).mono fun e w' ⟨he, hw⟩ => ⟨?_, hw⟩
        rw [he]
        exact congrArg Ending.returned (right_eq (Or.inr rfl) hf hE (by rw [rS, es, rr]; rfl) (by rw [es]; rfl))
      · rw [show bigOf ((sgn w a).tmod (pw (b % pw w.toNat).toNat)) = .agg #[.int .u64 (mag ((sgn w a).tmod (pw (b % pw w.toNat).toNat)) / 18446744073709551616), .int .u64 (mag ((sgn w a).tmod (pw (b % pw w.toNat).toNat)) % 18446744073709551616), .bool false] from by
          unfold bigOf; rw [decide_eq_false t1]] at c5
        refine (right_13f _ _ _ _ _ _ _ _ _ _ _ _ _ _ _ _ _ _ _ _ W h1 h2 y0 hy hf c0 c1 c2 c6 c5 (Wrapped_of w _ h1 h2)).mono fun e w' ⟨he, hw⟩ => ⟨?_, hw⟩
        rw [he]
        exact congrArg Ending.returned (right_eq (Or.inr rfl) hf hE (by rw [rS, es, rr]; rfl) (by rw [t2, es]; rfl))
  · rw [hwn, if_pos (show w ≤ b % pw w.toNat by omega)] at hE
    refine (right_over op w fl a b _ W h1 h2 y0 (by omega) c0).mono fun e w' ⟨he, hw⟩ => ⟨?_, hw⟩
    rw [he]
    unfold aplT aplR aplE
    rw [hE]
    rfl

theorem zB_of (z : Int) (h : -36893488147419103232 < z ∧ z < 36893488147419103232) : zB (mag z / 18446744073709551616) (mag z % 18446744073709551616) (decide (z < 0)) = (z == 0) := by
  unfold zB
  rw [Bool.eq_iff_iff]
  simp only [Bool.and_eq_true, beq_iff_eq, decide_eq_false_iff_not]
  unfold mag
  split <;> omega
theorem compared_of (op w a b : Int) (ho : op = 14 ∨ op = 15 ∨ op = 16 ∨ op = 17 ∨ op = 18 ∨ op = 19) (h1 : 1 ≤ w) (h2 : w ≤ 64) (ha : 0 ≤ a) (ha' : a ≤ 18446744073709551615) (hb : 0 ≤ b) (hb' : b ≤ 18446744073709551615) :
    Makes 34 #[.int .i64 op, .int .i64 w, .int .u64 a, .int .u64 b] (.bool (cmpB op (a % pw w.toNat) (b % pw w.toNat) (sgn w a) (sgn w b))) := by
  intro W
  have xa := mod_u64 a h1 h2
  have xb := mod_u64 b h1 h2
  have sa := sgn_bd w a
  have sb := sgn_bd w b
  have c1 := Plain_of w a h1 h2 ha ha'
  have c2 := Plain_of w b h1 h2 hb hb'
  have c3 := With_of w a h1 h2 ha ha'
  have c4 := With_of w b h1 h2 hb hb'
  have hu := Plus_of (a % pw w.toNat) (-(b % pw w.toNat)) ⟨by omega, by omega⟩ ⟨by omega, by omega⟩ ⟨by omega, by omega⟩
  have hs := Plus_of (sgn w a) (-sgn w b) ⟨by omega, by omega⟩ ⟨by omega, by omega⟩ ⟨by omega, by omega⟩
  have mu := Minus_of (b % pw w.toNat)
  have ms := Minus_of (sgn w b)
  have zu := zB_of (a % pw w.toNat + -(b % pw w.toNat)) ⟨by omega, by omega⟩
  have zs := zB_of (sgn w a + -sgn w b) ⟨by omega, by omega⟩
  generalize a % pw w.toNat = x at *
  generalize b % pw w.toNat = y at *
  generalize sgn w a = s at *
  generalize sgn w b = t at *
  have out : ∀ {b1 b2 : Bool} {e : Ending}, b1 = b2 → e = .returned (.bool b1) → e = .returned (.bool b2) := fun h k => h ▸ k
  rcases ho with rfl | rfl | rfl | rfl | rfl | rfl
  · refine (compared_14 _ _ _ _ _ _ _ _ _ _ _ _ _ _ _ W c1 c2 mu hu).mono fun e w' ⟨he, hw⟩ => ⟨out ?_ he, hw⟩
    rw [zu, Bool.eq_iff_iff]; simp [cmpB]; omega
  · refine (compared_15 _ _ _ _ _ _ _ _ _ _ _ _ _ _ _ W c1 c2 mu hu).mono fun e w' ⟨he, hw⟩ => ⟨out ?_ he, hw⟩
    rw [zu, Bool.eq_iff_iff]; simp [cmpB]; omega
  · refine (compared_16 _ _ _ _ _ _ _ _ _ _ _ _ _ _ _ W c1 c2 mu hu).mono fun e w' ⟨he, hw⟩ => ⟨out ?_ he, hw⟩
    rw [Bool.eq_iff_iff]; simp [cmpB]; omega
  · refine (compared_17 _ _ _ _ _ _ _ _ _ _ _ _ _ _ _ W c1 c2 mu hu).mono fun e w' ⟨he, hw⟩ => ⟨out ?_ he, hw⟩
    rw [zu, Bool.eq_iff_iff]; simp [cmpB]; omega
  · refine (compared_18 _ _ _ _ _ _ _ _ _ _ _ _ _ _ _ _ _ _ _ _ _ W c1 c2 c3 c4 ms hs).mono fun e w' ⟨he, hw⟩ => ⟨out ?_ he, hw⟩
    rw [Bool.eq_iff_iff]; simp [cmpB]; omega
  · refine (compared_19 _ _ _ _ _ _ _ _ _ _ _ _ _ _ _ _ _ _ _ _ _ W c1 c2 c3 c4 ms hs).mono fun e w' ⟨he, hw⟩ => ⟨out ?_ he, hw⟩
    rw [zs, Bool.eq_iff_iff]; simp [cmpB]; omega
end Go.Proofs.Ythhdgfhndijmeaa
