/- Contracts of the document's answers (package latheref01): width, Cut, half, Plain, With, Wrapped, Mask, Signed. -/
import Derived.Test.YthhdgfhndijmeaaBitsI
import Derived.Below
namespace Go.Proofs.Ythhdgfhndijmeaa
open Go.RowKit
set_option linter.unusedVariables false
set_option linter.unusedSimpArgs false

theorem below_drewN {B : Nat} {a w : World} (h : Below B a w) (n : Nat) : Below B a (w.drewN n) := ⟨h.os, h.tape, h.output, h.size, h.block⟩
theorem grown_trans {a b c : World} (h : Grown a b) (k : Grown b c) : Grown a c :=
  ⟨World.keptBut_trans h.1 k.1, fun x => (k.2.1 x).trans (h.2.1 x), Nat.le_trans h.2.2 k.2.2⟩
/-- Behind a call: all that was there is as it was; at most new blocks, not frozen. -/
def Kept (W w' : World) : Prop := Below W.heap.size W w' ∧ Grown W w'
theorem Kept.refl (W : World) : Kept W W := ⟨Below.refl _ _, Grown.refl _⟩
theorem Kept.alloc {W w' : World} (h : Kept W w') (c : Array Value) (t : TypeId) : Kept W (w'.alloc (.cells c t)) := ⟨h.1.alloc h.1.size _, h.2.alloc _ _⟩
theorem Kept.drewN {W w' : World} (h : Kept W w') (n : Nat) : Kept W (w'.drewN n) := ⟨below_drewN h.1 n, grown_drawn h.2 n⟩
theorem Kept.trans {a b c : World} (h : Kept a b) (k : Kept b c) : Kept a c := ⟨h.1.trans (k.1.mono h.1.size), grown_trans h.2 k.2⟩
theorem Kept.setCell {W w' : World} (h : Kept W w') {a : Addr} (ha : W.heap.size ≤ a.block) (v : Value) : Kept W (w'.setCell a v) := ⟨h.1.setCell ha v, h.2.setCell ha v⟩
/-- Called in whatever world, the function answers v; it may make memory, and turns none that was there. -/
def Makes (f : FuncId) (args : Array Value) (v : Value) : Prop :=
  ∀ W : World, Calls Try.prog f args W fun e w' => e = .returned v ∧ Kept W w'
theorem Makes.go {f : FuncId} {args : Array Value} {v : Value} (h : Makes f args v) (W : World) : Calls Try.prog f args W fun e w' => e = .returned v ∧ Kept W w' := h W
theorem Makes.as {f : FuncId} {args : Array Value} {v u : Value} (h : Makes f args v) (e : v = u) : Makes f args u := e ▸ h
theorem Gives.makes {f : FuncId} {args : Array Value} {v : Value} (h : Gives f args v) : Makes f args v :=
  fun W => (h W).mono fun _ _ ⟨he, n, hn⟩ => ⟨he, hn ▸ (Kept.refl _).drewN n⟩
theorem bcell {W w1 : World} (hb : Kept W w1) : (∀ b o, b < W.heap.size → w1.cell? ⟨b, o, none⟩ = W.cell? ⟨b, o, none⟩) ∧ (∀ b o, b < W.heap.size → w1.frozen? ⟨b, o, none⟩ = W.frozen? ⟨b, o, none⟩) :=
  ⟨fun b o h => hb.1.cell (p := ⟨b, o, none⟩) h, fun b o h => hb.1.frozen (p := ⟨b, o, none⟩) h⟩

theorem rwidth_any (w : Int) (wd : World) :
    Calls Try.prog 29 #[.int .i64 w] wd fun e w' => e = .returned (.bool (isW w)) ∧ wd = w' := by
  by_cases h1 : 1 ≤ w <;> by_cases h2 : w ≤ 64
  all_goals
    go_enter Try.func29, Try.ntmps29
    go_wp2
    go_ret
    exact ⟨ret_bool (by simp [isW, h1, h2]), rfl⟩

theorem Cut_any (w v : Int) (wd : World) (h1 : 1 ≤ w) (h2 : w ≤ 64) (hv : 0 ≤ v) (hv' : v ≤ 18446744073709551615) :
    Calls Try.prog 35 #[.int .i64 w, .int .u64 v] wd fun e w' => e = .returned (.int .u64 (v % pw w.toNat)) ∧ wd = w' := by
  by_cases h : w = 64
  · subst h
    go_enter Try.func35, Try.ntmps35
    go_wp2
    go_ret
    exact ⟨ret_int (by show v = v % pw 64; rw [pw_64]; omega), rfl⟩
  · have h3 : w < 64 := by omega
    have p1 := pw_pos w.toNat
    have p2 := pw_le63 (n := w.toNat) (by omega)
    have hP : IntKind.u64.wrap (2 ^ w.toNat) = pw w.toNat := by rw [u64w, pw_eq]; omega
    have p3 : ¬ pw w.toNat = 0 := by omega
    clear h
    go_enter Try.func35, Try.ntmps35
    go_wp2
    go_ret
    exact ⟨ret_int rfl, rfl⟩

theorem half_any (w : Int) (wd : World) (h1 : 1 ≤ w) (h2 : w ≤ 64) :
    Calls Try.prog 53 #[.int .i64 w] wd fun e w' => e = .returned (.int .u64 (pw (w.toNat - 1))) ∧ wd = w' := by
  have p1 := pw_pos (w.toNat - 1)
  have p2 := pw_le63 (n := w.toNat - 1) (by omega)
  have hP : IntKind.u64.wrap (2 ^ (w.toNat - 1)) = pw (w.toNat - 1) := by rw [u64w, pw_eq]; omega
  go_enter Try.func53, Try.ntmps53
  go_wp2
  go_ret
  exact ⟨ret_int rfl, rfl⟩

/-- A whole number as the document's answers hold one: its size in two words, and whether it is below 0. -/
def big (hi lo : Int) (below : Bool) : Value := .agg #[.int .u64 hi, .int .u64 lo, .bool below]

theorem build_lo (w : World) (lo : Int) : (Instr.build 46 #[(1, .int .u64 lo)]).run Try.prog w = .ok (.agg #[.int .u64 0, .int .u64 lo, .bool false]) w := run_build _ _ _ _ (by kernel_rfl)
theorem build_lb (w : World) (lo : Int) (b : Bool) : (Instr.build 46 #[(1, .int .u64 lo), (2, .bool b)]).run Try.prog w = .ok (.agg #[.int .u64 0, .int .u64 lo, .bool b]) w := run_build _ _ _ _ (by kernel_rfl)
theorem build_hlb (w : World) (hi lo : Int) (b : Bool) : (Instr.build 46 #[(0, .int .u64 hi), (1, .int .u64 lo), (2, .bool b)]).run Try.prog w = .ok (.agg #[.int .u64 hi, .int .u64 lo, .bool b]) w := run_build _ _ _ _ (by kernel_rfl)

theorem With_any (w v : Int) (h1 : 1 ≤ w) (h2 : w ≤ 64) (hv : 0 ≤ v) (hv' : v ≤ 18446744073709551615) :
    Makes 37 #[.int .i64 w, .int .u64 v] (big 0 (mag (sgn w v)) (decide (sgn w v < 0))) := by
  intro W
  have c1 := fun W => Cut_any w v W h1 h2 hv hv'
  have c2 := fun W => half_any w W h1 h2
  have k1 := Int.emod_nonneg v (show pw w.toNat ≠ 0 by have := pw_pos w.toNat; omega)
  have k2 := Int.emod_lt_of_pos v (pw_pos w.toNat)
  have hl := pw_le64 (n := w.toNat) (by omega)
  have hh := pw_half (n := w.toNat) (by omega)
  have hs := sgn_in v h1 h2
  generalize sgn w v = s at *
  generalize v % pw w.toNat = x at *
  by_cases hx : x < pw (w.toNat - 1)
  · have e1 : s = x := by rw [hs, sg, if_pos hx]
    have e2 : big 0 x false = big 0 (mag s) (decide (s < 0)) := by
      have : ¬ s < 0 := by omega
      rw [mag, if_neg this, e1]; simp [big]; omega
    rw [← e2]
    clear e1 e2 hs hh
    have hb := build_lb
    go_enter Try.func37, Try.ntmps37
    go_wp2_with (first | ((with_reducible refine (c1 _).mono ?_); rintro e w' ⟨rfl, rfl⟩) | ((with_reducible refine (c2 _).mono ?_); rintro e w' ⟨rfl, rfl⟩))
    exact bodyPost_ret (v := big 0 x false) (by simp [results, Try.results37, go_sem, big]) rfl ⟨rfl, (Kept.refl _).alloc _ _⟩
  · have e1 : s = x - pw w.toNat := by rw [hs, sg, if_neg hx]
    have e3 : IntKind.u64.wrap (-x) % pw w.toNat = mag s := by
      rw [u64w, Int.emod_emod_of_dvd _ ⟨_, (pw_dvd64 (n := w.toNat) (by omega)).symm⟩, mag, if_pos (by omega), e1, ← Int.add_emod_right, Int.emod_eq_of_lt (by omega) (by omega)]; omega
    have e4 : decide (s < 0) = true := by simp; omega
    have c3 := fun W => Cut_any w (IntKind.u64.wrap (-x)) W h1 h2 (by rw [u64w]; omega) (by rw [u64w]; omega)
    rw [e3] at c3
    rw [e4]
    generalize mag s = y at *
    clear e1 e3 e4 hs hh
    have hb := build_lb
    go_enter Try.func37, Try.ntmps37
    go_wp2_with (first | ((with_reducible refine (c1 _).mono ?_); rintro e w' ⟨rfl, rfl⟩) | ((with_reducible refine (c2 _).mono ?_); rintro e w' ⟨rfl, rfl⟩) | ((with_reducible refine (c3 _).mono ?_); rintro e w' ⟨rfl, rfl⟩))
    exact bodyPost_ret (v := big 0 y true) (by simp [results, Try.results37, go_sem, big]) rfl ⟨rfl, (Kept.refl _).alloc _ _⟩

theorem Wrapped_any (w hi lo : Int) (b : Bool) (h1 : 1 ≤ w) (h2 : w ≤ 64) (hv : 0 ≤ lo) (hv' : lo ≤ 18446744073709551615) :
    Makes 36 #[.int .i64 w, big hi lo b] (.int .u64 ((if b then -lo else lo) % pw w.toNat)) := by
  intro W
  unfold big
  cases b
  · have c1 := fun W => Cut_any w lo W h1 h2 hv hv'
    simp only [Bool.false_eq_true, if_false]
    go_enter Try.func36, Try.ntmps36
    go_wp2_with ((with_reducible refine (c1 _).mono ?_); rintro e w' ⟨rfl, rfl⟩)
    go_ret
    exact ⟨rfl, (Kept.refl _).alloc _ _⟩
  · have c1 := fun W => Cut_any w (IntKind.u64.wrap (-lo)) W h1 h2 (by rw [u64w]; omega) (by rw [u64w]; omega)
    have e3 : IntKind.u64.wrap (-lo) % pw w.toNat = -lo % pw w.toNat := by
      rw [u64w, Int.emod_emod_of_dvd _ ⟨_, (pw_dvd64 (n := w.toNat) (by omega)).symm⟩]
    rw [e3] at c1
    clear e3
    simp only [if_true]
    go_enter Try.func36, Try.ntmps36
    go_wp2_with ((with_reducible refine (c1 _).mono ?_); rintro e w' ⟨rfl, rfl⟩)
    go_ret
    exact ⟨rfl, (Kept.refl _).alloc _ _⟩

theorem Plain_any (w v : Int) (h1 : 1 ≤ w) (h2 : w ≤ 64) (hv : 0 ≤ v) (hv' : v ≤ 18446744073709551615) :
    Makes 47 #[.int .i64 w, .int .u64 v] (big 0 (v % pw w.toNat) false) := by
  intro W
  have c1 := fun W => Cut_any w v W h1 h2 hv hv'
  have hb := build_lo
  go_enter Try.func47, Try.ntmps47
  go_wp2_with ((with_reducible refine (c1 _).mono ?_); rintro e w' ⟨rfl, rfl⟩)
  exact bodyPost_ret (v := big 0 (v % pw w.toNat) false) (by simp [results, Try.results47, go_sem, big]) rfl ⟨rfl, (Kept.refl _).alloc _ _⟩

theorem rMask_any (w : Int) (wd : World) :
    Calls Try.prog 22 #[.int .i64 w] wd fun e w' => e = .returned (.int .u64 (msk w)) ∧ wd = w' := by
  have cw := rwidth_any w
  cases hw : isW w
  · rw [hw] at cw
    have hm : Hid (0 = msk w) := by show _ = _; rw [msk, hw]; rfl
    clear hw
    go_enter Try.func22, Try.ntmps22
    go_wp2_with ((with_reducible refine (cw _).mono ?_); rintro e w' ⟨rfl, rfl⟩)
    go_ret
    exact ⟨ret_int hm.out, rfl⟩
  · rw [hw] at cw
    obtain ⟨h1, h2⟩ := isW_iff.1 hw
    have c1 := fun W => Cut_any w 18446744073709551615 W h1 h2 (by decide) (by decide)
    have hm : 18446744073709551615 % pw w.toNat = msk w := by
      have h := pw_dvd64 (n := w.toNat) (by omega)
      have hq := pw_pos w.toNat
      rw [msk_in h1 h2]
      generalize pw w.toNat = N at *
      generalize pw (64 - w.toNat) = K at *
      have e : (18446744073709551615 : Int) = (N - 1) + N * (K - 1) := by rw [Int.mul_sub, h]; omega
      rw [e, Int.add_mul_emod_self_left, Int.emod_eq_of_lt (by omega) (by omega)]
    rw [hm] at c1
    clear hm hw
    go_enter Try.func22, Try.ntmps22
    go_wp2_with (first | ((with_reducible refine (cw _).mono ?_); rintro e w' ⟨rfl, rfl⟩) | ((with_reducible refine (c1 _).mono ?_); rintro e w' ⟨rfl, rfl⟩))
    go_ret
    exact ⟨ret_int rfl, rfl⟩

theorem rSigned_any (w v : Int) (hv : 0 ≤ v) (hv' : v ≤ 18446744073709551615) :
    Makes 20 #[.int .i64 w, .int .u64 v] (.int .i64 (sgn w v)) := by
  intro W
  have cw := rwidth_any w
  cases hw : isW w
  · rw [hw] at cw
    have hm : Hid (0 = sgn w v) := by show _ = _; rw [sgn, hw]; rfl
    clear hw
    go_enter Try.func20, Try.ntmps20
    go_wp2_with ((with_reducible refine (cw _).mono ?_); rintro e w' ⟨rfl, rfl⟩)
    go_ret
    exact ⟨ret_int hm.out, Kept.refl _⟩
  · rw [hw] at cw
    obtain ⟨h1, h2⟩ := isW_iff.1 hw
    have c1 := With_any w v h1 h2 hv hv'
    have hb := sgn_bd w v
    clear hw
    generalize sgn w v = s at *
    by_cases hs : s < 0
    · have e1 : mag s = -s := by rw [mag, if_pos hs]
      have e2 : decide (s < 0) = true := by simpa using hs
      rw [e1, e2, big] at c1
      have e3 : Hid (wrap64 (-wrap64 (-s)) = s) := by show _ = _; rw [i64w, i64w]; omega
      clear e1 e2
      go_enter Try.func20, Try.ntmps20
      go_wp2_with (first | ((with_reducible refine (cw _).mono ?_); rintro e w' ⟨rfl, rfl⟩) | ((with_reducible refine (c1.go _).mono ?_); rintro e w1 ⟨rfl, hb1⟩))
      go_ret
      exact ⟨ret_int e3.out, hb1.alloc _ _⟩
    · have e1 : mag s = s := by rw [mag, if_neg hs]
      have e2 : decide (s < 0) = false := by simpa using hs
      rw [e1, e2, big] at c1
      have e3 : Hid (wrap64 s = s) := by show _ = _; rw [i64w]; omega
      clear e1 e2
      go_enter Try.func20, Try.ntmps20
      go_wp2_with (first | ((with_reducible refine (cw _).mono ?_); rintro e w' ⟨rfl, rfl⟩) | ((with_reducible refine (c1.go _).mono ?_); rintro e w1 ⟨rfl, hb1⟩))
      go_ret
      first | exact ⟨ret_int e3.out, hb1.alloc _ _⟩ | exact ⟨ret_int rfl, hb1.alloc _ _⟩

theorem rConvert_n (op f t v : Int) (W : World) (hf : ∀ W, Calls Try.prog 29 #[.int .i64 f] W fun e w' => e = .returned (.bool true) ∧ W = w')
    (ht : ∀ W, Calls Try.prog 29 #[.int .i64 t] W fun e w' => e = .returned (.bool true) ∧ W = w')
    (k1 : (op == 20) = false) (k2 : (op == 21) = false) (k3 : (op == 22) = false) :
    Calls Try.prog 18 #[.int .i64 op, .int .i64 f, .int .i64 t, .int .u64 v] W fun e w' => e = .returned (.tuple #[.int .u64 0, .bool false]) ∧ Kept W w' := by
  go_enter Try.func18, Try.ntmps18
  go_wp2_with (first | ((with_reducible refine (hf _).mono ?_); rintro e w' ⟨rfl, rfl⟩) | ((with_reducible refine (ht _).mono ?_); rintro e w' ⟨rfl, rfl⟩))
  go_ret2
  exact ⟨ret_vb rfl rfl, Kept.refl _⟩
theorem rConvert_no (op f t v : Int) (W : World) (bf bt : Bool) (hf : ∀ W, Calls Try.prog 29 #[.int .i64 f] W fun e w' => e = .returned (.bool bf) ∧ W = w')
    (ht : ∀ W, Calls Try.prog 29 #[.int .i64 t] W fun e w' => e = .returned (.bool bt) ∧ W = w') (hb : bf = false ∨ bf = true ∧ bt = false) :
    Calls Try.prog 18 #[.int .i64 op, .int .i64 f, .int .i64 t, .int .u64 v] W fun e w' => e = .returned (.tuple #[.int .u64 0, .bool false]) ∧ Kept W w' := by
  rcases hb with rfl | ⟨rfl, rfl⟩
  all_goals
    go_enter Try.func18, Try.ntmps18
    go_wp2_with (first | ((with_reducible refine (hf _).mono ?_); rintro e w' ⟨rfl, rfl⟩) | ((with_reducible refine (ht _).mono ?_); rintro e w' ⟨rfl, rfl⟩))
    go_ret2
    exact ⟨ret_vb rfl rfl, Kept.refl _⟩
theorem rConvert_20n (f t v : Int) (W : World) (hv : 0 ≤ v) (hv' : v ≤ 18446744073709551615) (hf : ∀ W, Calls Try.prog 29 #[.int .i64 f] W fun e w' => e = .returned (.bool true) ∧ W = w')
    (ht : ∀ W, Calls Try.prog 29 #[.int .i64 t] W fun e w' => e = .returned (.bool true) ∧ W = w') (h : ¬ f < t) :
    Calls Try.prog 18 #[.int .i64 20, .int .i64 f, .int .i64 t, .int .u64 v] W fun e w' => e = .returned (.tuple #[.int .u64 (0), .bool false]) ∧ Kept W w' := by
  go_enter Try.func18, Try.ntmps18
  go_wp2_with (first | ((with_reducible refine (hf _).mono ?_); rintro e w' ⟨rfl, rfl⟩) | ((with_reducible refine (ht _).mono ?_); rintro e w' ⟨rfl, rfl⟩))
  go_ret2
  exact ⟨ret_vb rfl rfl, Kept.refl _⟩
theorem rConvert_21n (f t v : Int) (W : World) (hv : 0 ≤ v) (hv' : v ≤ 18446744073709551615) (hf : ∀ W, Calls Try.prog 29 #[.int .i64 f] W fun e w' => e = .returned (.bool true) ∧ W = w')
    (ht : ∀ W, Calls Try.prog 29 #[.int .i64 t] W fun e w' => e = .returned (.bool true) ∧ W = w') (h : ¬ f < t) :
    Calls Try.prog 18 #[.int .i64 21, .int .i64 f, .int .i64 t, .int .u64 v] W fun e w' => e = .returned (.tuple #[.int .u64 (0), .bool false]) ∧ Kept W w' := by
  go_enter Try.func18, Try.ntmps18
  go_wp2_with (first | ((with_reducible refine (hf _).mono ?_); rintro e w' ⟨rfl, rfl⟩) | ((with_reducible refine (ht _).mono ?_); rintro e w' ⟨rfl, rfl⟩))
  go_ret2
  exact ⟨ret_vb rfl rfl, Kept.refl _⟩
theorem rConvert_22n (f t v : Int) (W : World) (hv : 0 ≤ v) (hv' : v ≤ 18446744073709551615) (hf : ∀ W, Calls Try.prog 29 #[.int .i64 f] W fun e w' => e = .returned (.bool true) ∧ W = w')
    (ht : ∀ W, Calls Try.prog 29 #[.int .i64 t] W fun e w' => e = .returned (.bool true) ∧ W = w') (h : ¬ t < f) :
    Calls Try.prog 18 #[.int .i64 22, .int .i64 f, .int .i64 t, .int .u64 v] W fun e w' => e = .returned (.tuple #[.int .u64 (0), .bool false]) ∧ Kept W w' := by
  go_enter Try.func18, Try.ntmps18
  go_wp2_with (first | ((with_reducible refine (hf _).mono ?_); rintro e w' ⟨rfl, rfl⟩) | ((with_reducible refine (ht _).mono ?_); rintro e w' ⟨rfl, rfl⟩))
  go_ret2
  exact ⟨ret_vb rfl rfl, Kept.refl _⟩
theorem rConvert_20 (f t v : Int) (W : World) (hv : 0 ≤ v) (hv' : v ≤ 18446744073709551615) (hf : ∀ W, Calls Try.prog 29 #[.int .i64 f] W fun e w' => e = .returned (.bool true) ∧ W = w')
    (ht : ∀ W, Calls Try.prog 29 #[.int .i64 t] W fun e w' => e = .returned (.bool true) ∧ W = w') (h : f < t) (h1 : 1 ≤ f) (h2 : f ≤ 64) :
    Calls Try.prog 18 #[.int .i64 20, .int .i64 f, .int .i64 t, .int .u64 v] W fun e w' => e = .returned (.tuple #[.int .u64 (v % pw f.toNat), .bool true]) ∧ Kept W w' := by
  have c1 := fun W => Cut_any f v W h1 h2 hv hv'
  go_enter Try.func18, Try.ntmps18
  go_wp2_with (first | ((with_reducible refine (hf _).mono ?_); rintro e w' ⟨rfl, rfl⟩) | ((with_reducible refine (ht _).mono ?_); rintro e w' ⟨rfl, rfl⟩) | ((with_reducible refine (c1 _).mono ?_); rintro e w' ⟨rfl, rfl⟩))
  go_ret2
  exact ⟨ret_vb rfl rfl, Kept.refl _⟩
theorem rConvert_22 (f t v : Int) (W : World) (hv : 0 ≤ v) (hv' : v ≤ 18446744073709551615) (hf : ∀ W, Calls Try.prog 29 #[.int .i64 f] W fun e w' => e = .returned (.bool true) ∧ W = w')
    (ht : ∀ W, Calls Try.prog 29 #[.int .i64 t] W fun e w' => e = .returned (.bool true) ∧ W = w') (h : t < f) (h1 : 1 ≤ t) (h2 : t ≤ 64) :
    Calls Try.prog 18 #[.int .i64 22, .int .i64 f, .int .i64 t, .int .u64 v] W fun e w' => e = .returned (.tuple #[.int .u64 (v % pw t.toNat), .bool true]) ∧ Kept W w' := by
  have c1 := fun W => Cut_any t v W h1 h2 hv hv'
  go_enter Try.func18, Try.ntmps18
  go_wp2_with (first | ((with_reducible refine (hf _).mono ?_); rintro e w' ⟨rfl, rfl⟩) | ((with_reducible refine (ht _).mono ?_); rintro e w' ⟨rfl, rfl⟩) | ((with_reducible refine (c1 _).mono ?_); rintro e w' ⟨rfl, rfl⟩))
  go_ret2
  exact ⟨ret_vb rfl rfl, Kept.refl _⟩
theorem rConvert_21 (f t v : Int) (W : World) (hv : 0 ≤ v) (hv' : v ≤ 18446744073709551615) (hf : ∀ W, Calls Try.prog 29 #[.int .i64 f] W fun e w' => e = .returned (.bool true) ∧ W = w')
    (ht : ∀ W, Calls Try.prog 29 #[.int .i64 t] W fun e w' => e = .returned (.bool true) ∧ W = w') (h : f < t) (h1 : 1 ≤ f) (h2 : t ≤ 64) :
    Calls Try.prog 18 #[.int .i64 21, .int .i64 f, .int .i64 t, .int .u64 v] W fun e w' => e = .returned (.tuple #[.int .u64 (sgn f v % pw t.toNat), .bool true]) ∧ Kept W w' := by
  have c1 := With_any f v h1 (by omega) hv hv'
  have hb := sgn_bd f v
  have c2 := (Wrapped_any t 0 (mag (sgn f v)) (decide (sgn f v < 0)) (by omega) h2 (by unfold mag; split <;> omega) (by unfold mag; split <;> omega)).as (u := .int .u64 (sgn f v % pw t.toNat)) (one_eq (by
    congr 1; unfold mag; by_cases h : sgn f v < 0
    · rw [if_pos h]; simp [h]
    · rw [if_neg h]; simp; omega))
  unfold big at c1 c2
  generalize mag (sgn f v) = y at *
  generalize decide (sgn f v < 0) = z at *
  go_enter Try.func18, Try.ntmps18
  go_wp2_with (first | ((with_reducible refine (hf _).mono ?_); rintro e w' ⟨rfl, rfl⟩) | ((with_reducible refine (ht _).mono ?_); rintro e w' ⟨rfl, rfl⟩) | ((with_reducible refine (c1.go _).mono ?_); rintro e w1 ⟨rfl, hb1⟩) | ((with_reducible refine (c2.go _).mono ?_); rintro e w2 ⟨rfl, hb2⟩))
  go_ret2
  exact ⟨ret_vb rfl rfl, hb1.trans hb2⟩

theorem rConvert_any (op f t v : Int) (hv : 0 ≤ v) (hv' : v ≤ 18446744073709551615) :
    Makes 18 #[.int .i64 op, .int .i64 f, .int .i64 t, .int .u64 v] (.tuple #[.int .u64 (cvV op f t v), .bool (cvB op f t)]) := by
  intro W
  have cf := rwidth_any f
  have ct := rwidth_any t
  have none : cvB op f t = false → Calls Try.prog 18 #[.int .i64 op, .int .i64 f, .int .i64 t, .int .u64 v] W (fun e w' => e = .returned (.tuple #[.int .u64 0, .bool false]) ∧ Kept W w') →
      Calls Try.prog 18 #[.int .i64 op, .int .i64 f, .int .i64 t, .int .u64 v] W (fun e w' => e = .returned (.tuple #[.int .u64 (cvV op f t v), .bool (cvB op f t)]) ∧ Kept W w') := by
    intro hb hc
    rw [cvV, hb]
    exact hc
  have some : ∀ x, cvB op f t = true → cvV op f t v = x → Calls Try.prog 18 #[.int .i64 op, .int .i64 f, .int .i64 t, .int .u64 v] W (fun e w' => e = .returned (.tuple #[.int .u64 x, .bool true]) ∧ Kept W w') →
      Calls Try.prog 18 #[.int .i64 op, .int .i64 f, .int .i64 t, .int .u64 v] W (fun e w' => e = .returned (.tuple #[.int .u64 (cvV op f t v), .bool (cvB op f t)]) ∧ Kept W w') := by
    intro x hb hx hc
    rw [hx, hb]
    exact hc
  cases hf : isW f
  · rw [hf] at cf
    exact none (by simp [cvB, hf]) (rConvert_no op f t v W false _ cf ct (.inl rfl))
  · rw [hf] at cf
    cases ht : isW t
    · rw [ht] at ct
      exact none (by simp [cvB, hf, ht]) (rConvert_no op f t v W true false cf ct (.inr ⟨rfl, rfl⟩))
    · rw [ht] at ct
      obtain ⟨f1, f2⟩ := isW_iff.1 hf
      obtain ⟨t1, t2⟩ := isW_iff.1 ht
      by_cases k1 : op = 20
      · subst k1
        by_cases h : f < t
        · exact some _ (by simp [cvB, hf, ht, h]) (by simp [cvV, cvB, hf, ht, h]) (rConvert_20 f t v W hv hv' cf ct h f1 f2)
        · exact none (by simp [cvB, hf, ht]; omega) (rConvert_20n f t v W hv hv' cf ct h)
      · by_cases k2 : op = 21
        · subst k2
          by_cases h : f < t
          · exact some _ (by simp [cvB, hf, ht, h]) (by simp [cvV, cvB, hf, ht, h]) (rConvert_21 f t v W hv hv' cf ct h f1 t2)
          · exact none (by simp [cvB, hf, ht]; omega) (rConvert_21n f t v W hv hv' cf ct h)
        · by_cases k3 : op = 22
          · subst k3
            by_cases h : t < f
            · exact some _ (by simp [cvB, hf, ht, h]) (by simp [cvV, cvB, hf, ht, h]) (rConvert_22 f t v W hv hv' cf ct h t1 t2)
            · exact none (by simp [cvB, hf, ht]; omega) (rConvert_22n f t v W hv hv' cf ct h)
          · exact none (by simp [cvB, hf, ht, k1, k2, k3]) (rConvert_n op f t v W cf ct (by simpa using k1) (by simpa using k2) (by simpa using k3))
end Go.Proofs.Ythhdgfhndijmeaa
