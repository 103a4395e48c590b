/- Contracts of the document's answers (package latheref01): less, fixed, Minus, Plus. -/
import Derived.Test.YthhdgfhndijmeaaRefA
namespace Go.Proofs.Ythhdgfhndijmeaa
open Go.RowKit
set_option linter.unusedVariables false
set_option linter.unusedSimpArgs false

theorem less_any (a b c d : Int) (p q : Bool) (W : World) :
    Calls Try.prog 60 #[.agg #[.int .u64 a, .int .u64 b, .bool p], .agg #[.int .u64 c, .int .u64 d, .bool q]] W fun e w' =>
      e = .returned (.bool (decide (a < c ∨ (a = c ∧ b < d)))) ∧ (W.alloc (.cells #[.int .u64 a, .int .u64 b, .bool p] 46)).alloc (.cells #[.int .u64 c, .int .u64 d, .bool q] 46) = w' := by
  by_cases h1 : a < c
  · go_enter Try.func60, Try.ntmps60
    go_wp2
    go_ret
    exact ⟨ret_bool (by simp [h1]), rfl⟩
  · by_cases h2 : a = c
    · subst h2
      clear h1
      by_cases h3 : b < d
      all_goals
        go_enter Try.func60, Try.ntmps60
        go_wp2
        go_ret
        exact ⟨ret_bool (by simp [h3]), rfl⟩
    · have h3 : (a == c) = false := by simpa using h2
      have H : Hid ((decide (a < c) || decide (a = c) && decide (b < d)) = false) := by show _ = _; simp; omega
      clear h2
      go_enter Try.func60, Try.ntmps60
      go_wp2
      go_ret
      exact ⟨ret_bool H.out.symm, rfl⟩

theorem fixed_any (hi lo : Int) (b : Bool) (W : World) :
    Calls Try.prog 59 #[.agg #[.int .u64 hi, .int .u64 lo, .bool b]] W fun e w' =>
      e = .returned (.agg #[.int .u64 hi, .int .u64 lo, .bool (b && !(hi == 0 && lo == 0))]) ∧ Kept W w' := by
  by_cases h1 : hi = 0
  · by_cases h2 : lo = 0
    · subst h1; subst h2
      go_enter Try.func59, Try.ntmps59
      go_wp2
      exact bodyPost_ret (v := .agg #[.int .u64 0, .int .u64 0, .bool false]) (by simp [results, Try.results59, go_sem]) rfl ⟨by simp, ((Kept.refl _).alloc _ _).alloc _ _⟩
    · subst h1
      have h3 : (lo == 0) = false := by simpa using h2
      have H := Lib.hid h3
      clear h2
      go_enter Try.func59, Try.ntmps59
      go_wp2
      exact bodyPost_ret (v := .agg #[.int .u64 0, .int .u64 lo, .bool b]) (by simp [results, Try.results59, go_sem]) rfl ⟨by rw [H.out]; simp, ((Kept.refl _).alloc _ _).alloc _ _⟩
  · have h3 : (hi == 0) = false := by simpa using h1
    have H := Lib.hid h3
    clear h1
    go_enter Try.func59, Try.ntmps59
    go_wp2
    exact bodyPost_ret (v := .agg #[.int .u64 hi, .int .u64 lo, .bool b]) (by simp [results, Try.results59, go_sem]) rfl ⟨by rw [H.out]; simp, ((Kept.refl _).alloc _ _).alloc _ _⟩

theorem Minus_any (hi lo : Int) (b : Bool) (W : World) :
    Calls Try.prog 52 #[.agg #[.int .u64 hi, .int .u64 lo, .bool b]] W fun e w' =>
      e = .returned (.agg #[.int .u64 hi, .int .u64 lo, .bool (!b && !(hi == 0 && lo == 0))]) ∧ Kept W w' := by
  have c1 := fun W => fixed_any hi lo (!b) W
  generalize (!b && !(hi == 0 && lo == 0)) = z at *
  go_enter Try.func52, Try.ntmps52
  go_wp2_with ((with_reducible refine (c1 _).mono ?_); rintro e w1 ⟨rfl, hb1⟩; obtain ⟨hc, hf⟩ := bcell hb1)
  exact bodyPost_ret (v := .agg #[.int .u64 hi, .int .u64 lo, .bool z]) (by simp [results, Try.results52, go_sem, hc, hf]) rfl
    ⟨rfl, ((((((Kept.refl W).alloc _ _).alloc _ _).trans hb1).setCell (by simp) _).setCell (by simp) _).setCell (by simp) _⟩

theorem Plus_same (a b c d : Int) (p : Bool) (W : World) (ha : 0 ≤ a) (hb : 0 ≤ b) (hc : 0 ≤ c) (hd : 0 ≤ d) (hb' : b ≤ 18446744073709551615) (hd' : d ≤ 18446744073709551615)
    (h : a * 18446744073709551616 + b + (c * 18446744073709551616 + d) < 340282366920938463463374607431768211456) :
    Calls Try.prog 51 #[.agg #[.int .u64 a, .int .u64 b, .bool p], .agg #[.int .u64 c, .int .u64 d, .bool p]] W fun e w' =>
      e = .returned (.agg #[.int .u64 (if b + d ≤ 18446744073709551615 then a + c else a + c + 1), .int .u64 (if b + d ≤ 18446744073709551615 then b + d else b + d - 18446744073709551616), .bool p]) ∧ Kept W w' := by
  have hp : (p == p) = true := by cases p <;> rfl
  have hbu := build_hlb
  by_cases hk : b + d ≤ 18446744073709551615
  · simp only [if_pos hk]
    have k1 : a + c ≤ 18446744073709551615 := by omega
    clear h
    go_enter Try.func51, Try.ntmps51
    go_wp2
    exact bodyPost_ret (v := .agg #[.int .u64 (a + c), .int .u64 (b + d), .bool p]) (by simp [results, Try.results51, go_sem]) rfl ⟨rfl, (((Kept.refl W).alloc _ _).alloc _ _).alloc _ _⟩
  · simp only [if_neg hk]
    have k1 : a + c + 1 ≤ 18446744073709551615 := by omega
    have k2 : IntKind.u64.wrap (b + d) = b + d - 18446744073709551616 := by rw [u64w]; omega
    clear h
    go_enter Try.func51, Try.ntmps51
    go_wp2
    exact bodyPost_ret (v := .agg #[.int .u64 (a + c + 1), .int .u64 (b + d - 18446744073709551616), .bool p]) (by simp [results, Try.results51, go_sem]) rfl ⟨rfl, (((Kept.refl W).alloc _ _).alloc _ _).alloc _ _⟩
theorem Plus_gnf (a b c d : Int) (z : Bool) (W : World) (ha : 0 ≤ a) (hb : 0 ≤ b) (hc : 0 ≤ c) (hd : 0 ≤ d) (ha' : a ≤ 18446744073709551615) (hb' : b ≤ 18446744073709551615) (hc' : c ≤ 18446744073709551615) (hd' : d ≤ 18446744073709551615)
    (hrel : c ≤ a) (hcond : d ≤ b) (hless : decide (a < c ∨ (a = c ∧ b < d)) = false) (hz : (false && !(a - c == 0 && b - d == 0)) = z) :
    Calls Try.prog 51 #[.agg #[.int .u64 a, .int .u64 b, .bool false], .agg #[.int .u64 c, .int .u64 d, .bool true]] W fun e w' =>
      e = .returned (.agg #[.int .u64 (a - c), .int .u64 (b - d), .bool z]) ∧ Kept W w' := by
  have cL := fun W => less_any a b c d false true W
  rw [hless] at cL
  have cX := fun W => fixed_any (a - c) (b - d) false W
  rw [hz] at cX
  clear hless hz
  have hbu := build_hlb
  go_enter Try.func51, Try.ntmps51
  go_wp2_with (first | ((with_reducible refine (cL _).mono ?_); rintro e w' ⟨rfl, rfl⟩) | ((with_reducible refine (cX _).mono ?_); rintro e w1 ⟨rfl, hb1⟩; obtain ⟨hcc, hff⟩ := bcell hb1))
  refine bodyPost_ret (v := .agg #[.int .u64 (a - c), .int .u64 (b - d), .bool z]) (by simp [results, Try.results51, go_sem, hcc, hff]) rfl ⟨rfl, ?_⟩
  have hk : Kept W w1 := Kept.trans (by repeat (first | exact Kept.refl _ | apply Kept.alloc | (refine Kept.setCell ?_ (by dsimp only; omega) _))) hb1
  exact ((hk.setCell (by dsimp only; omega) _).setCell (by dsimp only; omega) _).setCell (by dsimp only; omega) _
theorem Plus_gnt (a b c d : Int) (z : Bool) (W : World) (ha : 0 ≤ a) (hb : 0 ≤ b) (hc : 0 ≤ c) (hd : 0 ≤ d) (ha' : a ≤ 18446744073709551615) (hb' : b ≤ 18446744073709551615) (hc' : c ≤ 18446744073709551615) (hd' : d ≤ 18446744073709551615)
    (hrel : c ≤ a) (hcond : d ≤ b) (hless : decide (a < c ∨ (a = c ∧ b < d)) = false) (hz : (true && !(a - c == 0 && b - d == 0)) = z) :
    Calls Try.prog 51 #[.agg #[.int .u64 a, .int .u64 b, .bool true], .agg #[.int .u64 c, .int .u64 d, .bool false]] W fun e w' =>
      e = .returned (.agg #[.int .u64 (a - c), .int .u64 (b - d), .bool z]) ∧ Kept W w' := by
  have cL := fun W => less_any a b c d true false W
  rw [hless] at cL
  have cX := fun W => fixed_any (a - c) (b - d) true W
  rw [hz] at cX
  clear hless hz
  have hbu := build_hlb
  go_enter Try.func51, Try.ntmps51
  go_wp2_with (first | ((with_reducible refine (cL _).mono ?_); rintro e w' ⟨rfl, rfl⟩) | ((with_reducible refine (cX _).mono ?_); rintro e w1 ⟨rfl, hb1⟩; obtain ⟨hcc, hff⟩ := bcell hb1))
  refine bodyPost_ret (v := .agg #[.int .u64 (a - c), .int .u64 (b - d), .bool z]) (by simp [results, Try.results51, go_sem, hcc, hff]) rfl ⟨rfl, ?_⟩
  have hk : Kept W w1 := Kept.trans (by repeat (first | exact Kept.refl _ | apply Kept.alloc | (refine Kept.setCell ?_ (by dsimp only; omega) _))) hb1
  exact ((hk.setCell (by dsimp only; omega) _).setCell (by dsimp only; omega) _).setCell (by dsimp only; omega) _
theorem Plus_gcf (a b c d : Int) (z : Bool) (W : World) (ha : 0 ≤ a) (hb : 0 ≤ b) (hc : 0 ≤ c) (hd : 0 ≤ d) (ha' : a ≤ 18446744073709551615) (hb' : b ≤ 18446744073709551615) (hc' : c ≤ 18446744073709551615) (hd' : d ≤ 18446744073709551615)
    (hrel : c < a) (hcond : b < d) (hless : decide (a < c ∨ (a = c ∧ b < d)) = false) (hz : (false && !(a - c - 1 == 0 && b - d + 18446744073709551616 == 0)) = z) :
    Calls Try.prog 51 #[.agg #[.int .u64 a, .int .u64 b, .bool false], .agg #[.int .u64 c, .int .u64 d, .bool true]] W fun e w' =>
      e = .returned (.agg #[.int .u64 (a - c - 1), .int .u64 (b - d + 18446744073709551616), .bool z]) ∧ Kept W w' := by
  have cL := fun W => less_any a b c d false true W
  rw [hless] at cL
  have cX := fun W => fixed_any (a - c - 1) (b - d + 18446744073709551616) false W
  rw [hz] at cX
  clear hless hz
  have hbu := build_hlb
  have k2 : IntKind.u64.wrap (b - d) = b - d + 18446744073709551616 := by rw [u64w]; omega
  go_enter Try.func51, Try.ntmps51
  go_wp2_with (first | ((with_reducible refine (cL _).mono ?_); rintro e w' ⟨rfl, rfl⟩) | ((with_reducible refine (cX _).mono ?_); rintro e w1 ⟨rfl, hb1⟩; obtain ⟨hcc, hff⟩ := bcell hb1))
  refine bodyPost_ret (v := .agg #[.int .u64 (a - c - 1), .int .u64 (b - d + 18446744073709551616), .bool z]) (by simp [results, Try.results51, go_sem, hcc, hff]) rfl ⟨rfl, ?_⟩
  have hk : Kept W w1 := Kept.trans (by repeat (first | exact Kept.refl _ | apply Kept.alloc | (refine Kept.setCell ?_ (by dsimp only; omega) _))) hb1
  exact ((hk.setCell (by dsimp only; omega) _).setCell (by dsimp only; omega) _).setCell (by dsimp only; omega) _
theorem Plus_gct (a b c d : Int) (z : Bool) (W : World) (ha : 0 ≤ a) (hb : 0 ≤ b) (hc : 0 ≤ c) (hd : 0 ≤ d) (ha' : a ≤ 18446744073709551615) (hb' : b ≤ 18446744073709551615) (hc' : c ≤ 18446744073709551615) (hd' : d ≤ 18446744073709551615)
    (hrel : c < a) (hcond : b < d) (hless : decide (a < c ∨ (a = c ∧ b < d)) = false) (hz : (true && !(a - c - 1 == 0 && b - d + 18446744073709551616 == 0)) = z) :
    Calls Try.prog 51 #[.agg #[.int .u64 a, .int .u64 b, .bool true], .agg #[.int .u64 c, .int .u64 d, .bool false]] W fun e w' =>
      e = .returned (.agg #[.int .u64 (a - c - 1), .int .u64 (b - d + 18446744073709551616), .bool z]) ∧ Kept W w' := by
  have cL := fun W => less_any a b c d true false W
  rw [hless] at cL
  have cX := fun W => fixed_any (a - c - 1) (b - d + 18446744073709551616) true W
  rw [hz] at cX
  clear hless hz
  have hbu := build_hlb
  have k2 : IntKind.u64.wrap (b - d) = b - d + 18446744073709551616 := by rw [u64w]; omega
  go_enter Try.func51, Try.ntmps51
  go_wp2_with (first | ((with_reducible refine (cL _).mono ?_); rintro e w' ⟨rfl, rfl⟩) | ((with_reducible refine (cX _).mono ?_); rintro e w1 ⟨rfl, hb1⟩; obtain ⟨hcc, hff⟩ := bcell hb1))
  refine bodyPost_ret (v := .agg #[.int .u64 (a - c - 1), .int .u64 (b - d + 18446744073709551616), .bool z]) (by simp [results, Try.results51, go_sem, hcc, hff]) rfl ⟨rfl, ?_⟩
  have hk : Kept W w1 := Kept.trans (by repeat (first | exact Kept.refl _ | apply Kept.alloc | (refine Kept.setCell ?_ (by dsimp only; omega) _))) hb1
  exact ((hk.setCell (by dsimp only; omega) _).setCell (by dsimp only; omega) _).setCell (by dsimp only; omega) _
theorem Plus_lnf (a b c d : Int) (z : Bool) (W : World) (ha : 0 ≤ a) (hb : 0 ≤ b) (hc : 0 ≤ c) (hd : 0 ≤ d) (ha' : a ≤ 18446744073709551615) (hb' : b ≤ 18446744073709551615) (hc' : c ≤ 18446744073709551615) (hd' : d ≤ 18446744073709551615)
    (hrel : a ≤ c) (hcond : b ≤ d) (hless : decide (a < c ∨ (a = c ∧ b < d)) = true) (hz : (true && !(c - a == 0 && d - b == 0)) = z) :
    Calls Try.prog 51 #[.agg #[.int .u64 a, .int .u64 b, .bool false], .agg #[.int .u64 c, .int .u64 d, .bool true]] W fun e w' =>
      e = .returned (.agg #[.int .u64 (c - a), .int .u64 (d - b), .bool z]) ∧ Kept W w' := by
  have cL := fun W => less_any a b c d false true W
  rw [hless] at cL
  have cX := fun W => fixed_any (c - a) (d - b) true W
  rw [hz] at cX
  clear hless hz
  have hbu := build_hlb
  go_enter Try.func51, Try.ntmps51
  go_wp2_with (first | ((with_reducible refine (cL _).mono ?_); rintro e w' ⟨rfl, rfl⟩) | ((with_reducible refine (cX _).mono ?_); rintro e w1 ⟨rfl, hb1⟩; obtain ⟨hcc, hff⟩ := bcell hb1))
  refine bodyPost_ret (v := .agg #[.int .u64 (c - a), .int .u64 (d - b), .bool z]) (by simp [results, Try.results51, go_sem, hcc, hff]) rfl ⟨rfl, ?_⟩
  have hk : Kept W w1 := Kept.trans (by repeat (first | exact Kept.refl _ | apply Kept.alloc | (refine Kept.setCell ?_ (by dsimp only; omega) _))) hb1
  exact ((hk.setCell (by dsimp only; omega) _).setCell (by dsimp only; omega) _).setCell (by dsimp only; omega) _
theorem Plus_lnt (a b c d : Int) (z : Bool) (W : World) (ha : 0 ≤ a) (hb : 0 ≤ b) (hc : 0 ≤ c) (hd : 0 ≤ d) (ha' : a ≤ 18446744073709551615) (hb' : b ≤ 18446744073709551615) (hc' : c ≤ 18446744073709551615) (hd' : d ≤ 18446744073709551615)
    (hrel : a ≤ c) (hcond : b ≤ d) (hless : decide (a < c ∨ (a = c ∧ b < d)) = true) (hz : (false && !(c - a == 0 && d - b == 0)) = z) :
    Calls Try.prog 51 #[.agg #[.int .u64 a, .int .u64 b, .bool true], .agg #[.int .u64 c, .int .u64 d, .bool false]] W fun e w' =>
      e = .returned (.agg #[.int .u64 (c - a), .int .u64 (d - b), .bool z]) ∧ Kept W w' := by
  have cL := fun W => less_any a b c d true false W
  rw [hless] at cL
  have cX := fun W => fixed_any (c - a) (d - b) false W
  rw [hz] at cX
  clear hless hz
  have hbu := build_hlb
  go_enter Try.func51, Try.ntmps51
  go_wp2_with (first | ((with_reducible refine (cL _).mono ?_); rintro e w' ⟨rfl, rfl⟩) | ((with_reducible refine (cX _).mono ?_); rintro e w1 ⟨rfl, hb1⟩; obtain ⟨hcc, hff⟩ := bcell hb1))
  refine bodyPost_ret (v := .agg #[.int .u64 (c - a), .int .u64 (d - b), .bool z]) (by simp [results, Try.results51, go_sem, hcc, hff]) rfl ⟨rfl, ?_⟩
  have hk : Kept W w1 := Kept.trans (by repeat (first | exact Kept.refl _ | apply Kept.alloc | (refine Kept.setCell ?_ (by dsimp only; omega) _))) hb1
  exact ((hk.setCell (by dsimp only; omega) _).setCell (by dsimp only; omega) _).setCell (by dsimp only; omega) _
theorem Plus_lcf (a b c d : Int) (z : Bool) (W : World) (ha : 0 ≤ a) (hb : 0 ≤ b) (hc : 0 ≤ c) (hd : 0 ≤ d) (ha' : a ≤ 18446744073709551615) (hb' : b ≤ 18446744073709551615) (hc' : c ≤ 18446744073709551615) (hd' : d ≤ 18446744073709551615)
    (hrel : a < c) (hcond : d < b) (hless : decide (a < c ∨ (a = c ∧ b < d)) = true) (hz : (true && !(c - a - 1 == 0 && d - b + 18446744073709551616 == 0)) = z) :
    Calls Try.prog 51 #[.agg #[.int .u64 a, .int .u64 b, .bool false], .agg #[.int .u64 c, .int .u64 d, .bool true]] W fun e w' =>
      e = .returned (.agg #[.int .u64 (c - a - 1), .int .u64 (d - b + 18446744073709551616), .bool z]) ∧ Kept W w' := by
  have cL := fun W => less_any a b c d false true W
  rw [hless] at cL
  have cX := fun W => fixed_any (c - a - 1) (d - b + 18446744073709551616) true W
  rw [hz] at cX
  clear hless hz
  have hbu := build_hlb
  have k2 : IntKind.u64.wrap (d - b) = d - b + 18446744073709551616 := by rw [u64w]; omega
  go_enter Try.func51, Try.ntmps51
  go_wp2_with (first | ((with_reducible refine (cL _).mono ?_); rintro e w' ⟨rfl, rfl⟩) | ((with_reducible refine (cX _).mono ?_); rintro e w1 ⟨rfl, hb1⟩; obtain ⟨hcc, hff⟩ := bcell hb1))
  refine bodyPost_ret (v := .agg #[.int .u64 (c - a - 1), .int .u64 (d - b + 18446744073709551616), .bool z]) (by simp [results, Try.results51, go_sem, hcc, hff]) rfl ⟨rfl, ?_⟩
  have hk : Kept W w1 := Kept.trans (by repeat (first | exact Kept.refl _ | apply Kept.alloc | (refine Kept.setCell ?_ (by dsimp only; omega) _))) hb1
  exact ((hk.setCell (by dsimp only; omega) _).setCell (by dsimp only; omega) _).setCell (by dsimp only; omega) _
theorem Plus_lct (a b c d : Int) (z : Bool) (W : World) (ha : 0 ≤ a) (hb : 0 ≤ b) (hc : 0 ≤ c) (hd : 0 ≤ d) (ha' : a ≤ 18446744073709551615) (hb' : b ≤ 18446744073709551615) (hc' : c ≤ 18446744073709551615) (hd' : d ≤ 18446744073709551615)
    (hrel : a < c) (hcond : d < b) (hless : decide (a < c ∨ (a = c ∧ b < d)) = true) (hz : (false && !(c - a - 1 == 0 && d - b + 18446744073709551616 == 0)) = z) :
    Calls Try.prog 51 #[.agg #[.int .u64 a, .int .u64 b, .bool true], .agg #[.int .u64 c, .int .u64 d, .bool false]] W fun e w' =>
      e = .returned (.agg #[.int .u64 (c - a - 1), .int .u64 (d - b + 18446744073709551616), .bool z]) ∧ Kept W w' := by
  have cL := fun W => less_any a b c d true false W
  rw [hless] at cL
  have cX := fun W => fixed_any (c - a - 1) (d - b + 18446744073709551616) false W
  rw [hz] at cX
  clear hless hz
  have hbu := build_hlb
  have k2 : IntKind.u64.wrap (d - b) = d - b + 18446744073709551616 := by rw [u64w]; omega
  go_enter Try.func51, Try.ntmps51
  go_wp2_with (first | ((with_reducible refine (cL _).mono ?_); rintro e w' ⟨rfl, rfl⟩) | ((with_reducible refine (cX _).mono ?_); rintro e w1 ⟨rfl, hb1⟩; obtain ⟨hcc, hff⟩ := bcell hb1))
  refine bodyPost_ret (v := .agg #[.int .u64 (c - a - 1), .int .u64 (d - b + 18446744073709551616), .bool z]) (by simp [results, Try.results51, go_sem, hcc, hff]) rfl ⟨rfl, ?_⟩
  have hk : Kept W w1 := Kept.trans (by repeat (first | exact Kept.refl _ | apply Kept.alloc | (refine Kept.setCell ?_ (by dsimp only; omega) _))) hb1
  exact ((hk.setCell (by dsimp only; omega) _).setCell (by dsimp only; omega) _).setCell (by dsimp only; omega) _
end Go.Proofs.Ythhdgfhndijmeaa
