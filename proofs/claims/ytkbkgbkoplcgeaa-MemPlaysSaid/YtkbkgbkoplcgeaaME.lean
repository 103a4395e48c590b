/- The document's Cut, Count, Norm. -/
import Derived.Test.YtkbkgbkoplcgeaaMD
namespace Go.Proofs.Ytkbkgbkoplcgeaa
open Go.RowKit Go.Maps
set_option linter.unusedVariables false
set_option linter.unusedSimpArgs false

theorem rCut_any (w v : Int) (wd : World) (h1 : 1 ≤ w) (h2 : w ≤ 64) (hv : 0 ≤ v) (hv' : v ≤ 18446744073709551615) :
    Calls Try.prog 47 #[.int .i64 w, .int .u64 v] wd fun e w' => e = .returned (.int .u64 (v % pw w.toNat)) ∧ wd = w' := by
  by_cases h : w = 64
  · subst h
    go_enter Try.func47, Try.ntmps47
    go_wp2
    go_ret
    exact ⟨ret_int (by show v = v % pw 64; rw [pw_64]; omega), rfl⟩
  · have h3 : w < 64 := by omega
    have p1 := pw_pos w.toNat
    have p2 := pw_le63 (n := w.toNat) (by omega)
    have hP : IntKind.u64.wrap (2 ^ w.toNat) = pw w.toNat := by rw [u64w, pw_eq]; omega
    have p3 : ¬ pw w.toNat = 0 := by omega
    clear h
    go_enter Try.func47, Try.ntmps47
    go_wp2
    go_ret
    exact ⟨ret_int rfl, rfl⟩
set_option maxHeartbeats 1000000 in
theorem rCount_any (t : Int) (W : World) :
    Calls Try.prog 44 #[.int .i64 t] W fun e w' => e = .returned (.int .i64 (wd t)) ∧ W = w' := by
  by_cases h65 : t = 65
  · subst h65
    go_enter Try.func44, Try.ntmps44
    go_wp2_with fail
    go_ret
    exact ⟨ret_int rfl, rfl⟩
  · have g1 : (t == 65) = false := by simpa using h65
    by_cases h1 : t < 1
    · have e0 : wd t = 0 := by have := (wd_pos t); omega
      rw [e0]
      clear e0 h65
      go_enter Try.func44, Try.ntmps44
      go_wp2_with fail
      go_ret
      exact ⟨rfl, rfl⟩
    · by_cases h2 : 64 < t
      · have e0 : wd t = 0 := by have := (wd_pos t); omega
        rw [e0]
        clear e0 h65
        go_enter Try.func44, Try.ntmps44
        go_wp2_with fail
        go_ret
        exact ⟨rfl, rfl⟩
      · have HE := Lib.hid (wd_in (t := t) (by omega) (by omega))
        clear h65
        go_enter Try.func44, Try.ntmps44
        go_wp2_with fail
        go_loopw [3] (fun u wr => ∃ k : Nat, 1 ≤ k ∧ k ≤ (t.toNat + 7) / 8 ∧ u = .int .i64 k ∧ Hid (W = wr)) (fun u _ => 9 - (intOf u).toNat)
        case atStart => exact ⟨1, Nat.le_refl _, by omega, rfl, Lib.hid rfl⟩
        case round =>
          obtain ⟨k, hk1, hk, rfl, hw⟩ := hrel
          by_cases hlt : 8 * (k : Int) < t
          · go_wp2_with fail
            exact ⟨⟨k + 1, by omega, by omega, by go_num, hw⟩, by simp [intOf]; omega⟩
          · go_wp2_with fail
            go_ret
            exact ⟨ret_int (by rw [HE.out]; omega), hw.out⟩
set_option maxHeartbeats 1000000 in
theorem rNorm_any (t : Int) (v : Vl) (W : World) (hv : v.ok) :
    Calls Try.prog 21 #[.int .i64 t, v.val] W fun e w' => e = .returned (norm t v).val ∧ Below W.heap.size W w' := by
  obtain ⟨k, b, bk, o⟩ := v
  have b0 := bV0
  have b1 := bV1
  have b2 := bV2
  have b3 := bV3
  have HV := Lib.hid hv
  show Calls _ _ #[.int .i64 t, .agg #[.int .i64 k, .int .u64 b, .int .i64 bk, .int .i64 o]] W _
  by_cases hW : 1 ≤ t ∧ t ≤ 64
  · obtain ⟨t1, t2⟩ := hW
    have g0 : (t == 65) = false := by simp; omega
    have g5 : t ≤ 65 := by omega
    by_cases k1 : k = 1
    · subst k1
      rw [norm_num (t := t) (v := ⟨1, b, bk, o⟩) rfl (isW_iff.2 ⟨t1, t2⟩)]
      show Calls _ _ _ W fun e w' => e = .returned (.agg #[.int .i64 1, .int .u64 (b % pw t.toNat), .int .i64 0, .int .i64 0]) ∧ _
      have c1 := fun w => rCut_any t b w t1 t2 HV.out.1 HV.out.2
      clear hv
      go_enter Try.func21, Try.ntmps21
      go_wp2_with (first | ((with_reducible refine (c1 _).mono ?_); rintro e w' ⟨rfl, rfl⟩))
      exact bodyPost_ret (v := .agg #[.int .i64 1, .int .u64 (b % pw t.toNat), .int .i64 0, .int .i64 0]) (by simp [results, Try.results21, go_sem]) rfl ⟨rfl, below2 W _ _⟩
    · have g1 : (k == 1) = false := by simpa using k1
      by_cases k3 : k = 3
      · subst k3
        rw [norm_any (t := t) (v := ⟨3, b, bk, o⟩) rfl ((wd_pos t).2 ⟨t1, g5⟩)]
        show Calls _ _ _ W fun e w' => e = .returned (.agg #[.int .i64 3, .int .u64 0, .int .i64 0, .int .i64 0]) ∧ _
        clear hv k1
        go_enter Try.func21, Try.ntmps21
        go_wp2_with fail
        exact bodyPost_ret (v := .agg #[.int .i64 3, .int .u64 0, .int .i64 0, .int .i64 0]) (by simp [results, Try.results21, go_sem]) rfl ⟨rfl, below2 W _ _⟩
      · have g3 : (k == 3) = false := by simpa using k3
        have e : norm t ⟨k, b, bk, o⟩ = p0 := by unfold norm; rw [if_neg (fun x => k1 x.1), if_neg (fun x => by omega), if_neg (fun x => k3 x.1)]
        rw [e]
        show Calls _ _ _ W fun e w' => e = .returned (.agg #[.int .i64 0, .int .u64 0, .int .i64 0, .int .i64 0]) ∧ _
        clear hv e k1 k3
        go_enter Try.func21, Try.ntmps21
        go_wp2_with fail
        exact bodyPost_ret (v := .agg #[.int .i64 0, .int .u64 0, .int .i64 0, .int .i64 0]) (by simp [results, Try.results21, go_sem]) rfl ⟨rfl, below2 W _ _⟩
  · have hf : isW t = false := isW_not.2 hW
    by_cases ht : t = 65
    · subst ht
      clear hW
      by_cases k2 : k = 2
      · subst k2
        rw [norm_addr (v := ⟨2, b, bk, o⟩) rfl]
        show Calls _ _ _ W fun e w' => e = .returned (.agg #[.int .i64 2, .int .u64 0, .int .i64 bk, .int .i64 o]) ∧ _
        clear hv
        go_enter Try.func21, Try.ntmps21
        go_wp2_with fail
        exact bodyPost_ret (v := .agg #[.int .i64 2, .int .u64 0, .int .i64 bk, .int .i64 o]) (by simp [results, Try.results21, go_sem]) rfl ⟨rfl, below2 W _ _⟩
      · have g2 : (k == 2) = false := by simpa using k2
        by_cases k3 : k = 3
        · subst k3
          rw [norm_any (t := 65) (v := ⟨3, b, bk, o⟩) rfl (by decide)]
          show Calls _ _ _ W fun e w' => e = .returned (.agg #[.int .i64 3, .int .u64 0, .int .i64 0, .int .i64 0]) ∧ _
          clear hv k2
          go_enter Try.func21, Try.ntmps21
          go_wp2_with fail
          exact bodyPost_ret (v := .agg #[.int .i64 3, .int .u64 0, .int .i64 0, .int .i64 0]) (by simp [results, Try.results21, go_sem]) rfl ⟨rfl, below2 W _ _⟩
        · have g3 : (k == 3) = false := by simpa using k3
          have e : norm 65 ⟨k, b, bk, o⟩ = p0 := by unfold norm; rw [if_neg (fun x => by rw [hf] at x; exact absurd x.2 (by decide)), if_neg (fun x => k2 x.1), if_neg (fun x => k3 x.1)]
          rw [e]
          show Calls _ _ _ W fun e w' => e = .returned (.agg #[.int .i64 0, .int .u64 0, .int .i64 0, .int .i64 0]) ∧ _
          clear hv e k2 k3
          go_enter Try.func21, Try.ntmps21
          go_wp2_with fail
          exact bodyPost_ret (v := .agg #[.int .i64 0, .int .u64 0, .int .i64 0, .int .i64 0]) (by simp [results, Try.results21, go_sem]) rfl ⟨rfl, below2 W _ _⟩
    · have e : norm t ⟨k, b, bk, o⟩ = p0 := by
        have := wd_pos t
        unfold norm; rw [if_neg (fun x => by rw [hf] at x; exact absurd x.2 (by decide)), if_neg (fun x => ht x.2), if_neg (fun x => by omega)]
      rw [e]
      have g0 : (t == 65) = false := by simpa using ht
      have HN : t < 1 ∨ 65 < t := by omega
      show Calls _ _ _ W fun e w' => e = .returned (.agg #[.int .i64 0, .int .u64 0, .int .i64 0, .int .i64 0]) ∧ _
      clear hv e hf hW ht
      rcases HN with h1 | h1
      · go_enter Try.func21, Try.ntmps21
        go_wp2_with fail
        exact bodyPost_ret (v := .agg #[.int .i64 0, .int .u64 0, .int .i64 0, .int .i64 0]) (by simp [results, Try.results21, go_sem]) rfl ⟨rfl, below2 W _ _⟩
      · have h2 : ¬ t ≤ 64 := by omega
        have h3 : 1 ≤ t := by omega
        go_enter Try.func21, Try.ntmps21
        go_wp2_with fail
        exact bodyPost_ret (v := .agg #[.int .i64 0, .int .u64 0, .int .i64 0, .int .i64 0]) (by simp [results, Try.results21, go_sem]) rfl ⟨rfl, below2 W _ _⟩
end Go.Proofs.Ytkbkgbkoplcgeaa
