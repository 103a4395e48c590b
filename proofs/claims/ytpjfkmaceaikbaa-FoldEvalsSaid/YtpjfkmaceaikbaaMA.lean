/- What this seat takes of layer 9's texts (MA) -/
import Derived.Test.YtpjfkmaceaikbaaMPure
import Derived.Test.YtpjfkmaceaikbaaBitsA
import Derived.ProofKit
import Derived.Deep.QuietTactic
import Derived.BigQuiet
import Derived.Deep.RegionWith
namespace Go.Proofs.Ytpjfkmaceaikbaa
open Go.RowKit Go.Maps
set_option linter.unusedVariables false
set_option linter.unusedSimpArgs false

theorem isNumber_any (w : Int) (wd : World) :
    Calls Try.prog 37 #[.int .i64 w] wd fun e w' => e = .returned (.bool (isW w)) ∧ wd = w' := by
  by_cases h1 : 1 ≤ w <;> by_cases h2 : w ≤ 64
  all_goals
    go_enter Try.func37, Try.ntmps37
    go_wp2
    go_ret
    exact ⟨by simp [isW, h1, h2], rfl⟩
theorem width_raw {t : Int} (h1 : 1 ≤ t) (h2 : t ≤ 64) : (t + 7) / 8 = wd t := by rw [wd_in h1 h2]; omega
theorem width_any (t : Int) (W : World) :
    Calls Try.prog 39 #[.int .i64 t] W fun e w' => e = .returned (.int .i64 (wd t)) ∧ W = w' := by
  by_cases hw : isW t = true
  · obtain ⟨h1, h2⟩ := isW_iff.1 hw
    have hr := width_raw h1 h2
    have HQ := Lib.hid hr
    clear hr
    go_enter Try.func39, Try.ntmps39
    go_wp2_with (go_at_call 37; refine (isNumber_any _ _).mono ?_; rintro e w' ⟨rfl, rfl⟩)
    go_ret
    exact ⟨ret_int HQ.out, rfl⟩
  · have hw' : isW t = false := by simpa using hw
    clear hw
    by_cases ht : t = 65
    · subst ht
      go_enter Try.func39, Try.ntmps39
      go_wp2_with (go_at_call 37; refine (isNumber_any _ _).mono ?_; rintro e w' ⟨rfl, rfl⟩)
      go_ret
      exact ⟨ret_int rfl, rfl⟩
    · have e0 : wd t = 0 := by unfold wd; rw [hw', if_neg (by decide), if_neg ht]
      have g1 : (t == 65) = false := by simpa using ht
      rw [e0]
      clear e0 ht
      go_enter Try.func39, Try.ntmps39
      go_wp2_with (go_at_call 37; refine (isNumber_any _ _).mono ?_; rintro e w' ⟨rfl, rfl⟩)
      go_ret
      exact ⟨rfl, rfl⟩
/-- What a byte of a number is. -/
def nB (b : Int) : By := ⟨1, b, 0, 0, 0⟩
theorem bV0 (w : World) : (Instr.build 35 #[]).run Try.prog w = .ok (.agg #[.int .i64 0, .int .u64 0, .int .i64 0, .int .i64 0]) w := run_build _ _ _ _ (by kernel_rfl)
theorem bV1 (w : World) (k : Int) : (Instr.build 35 #[(0, .int .i64 k)]).run Try.prog w = .ok (.agg #[.int .i64 k, .int .u64 0, .int .i64 0, .int .i64 0]) w := run_build _ _ _ _ (by kernel_rfl)
theorem bV2 (w : World) (k b : Int) : (Instr.build 35 #[(0, .int .i64 k), (1, .int .u64 b)]).run Try.prog w = .ok (.agg #[.int .i64 k, .int .u64 b, .int .i64 0, .int .i64 0]) w := run_build _ _ _ _ (by kernel_rfl)
theorem bV3 (w : World) (k b o : Int) : (Instr.build 35 #[(0, .int .i64 k), (2, .int .i64 b), (3, .int .i64 o)]).run Try.prog w = .ok (.agg #[.int .i64 k, .int .u64 0, .int .i64 b, .int .i64 o]) w := run_build _ _ _ _ (by kernel_rfl)
theorem bV4 (w : World) (k o : Int) : (Instr.build 35 #[(0, .int .i64 k), (3, .int .i64 o)]).run Try.prog w = .ok (.agg #[.int .i64 k, .int .u64 0, .int .i64 0, .int .i64 o]) w := run_build _ _ _ _ (by kernel_rfl)
/-- A piece of an address. -/
def pB (bk o i : Int) : By := ⟨2, 0, bk, o, i⟩
theorem below1 (W : World) (o : Obj) : Below W.heap.size W (W.alloc o) := (Below.refl _ _).alloc (Nat.le_refl _) _
theorem below2 (W : World) (o o' : Obj) : Below W.heap.size W ((W.alloc o).alloc o') := (below1 W o).alloc (below1 W o).size _
theorem below3 (W : World) (o o' o2 : Obj) : Below W.heap.size W (((W.alloc o).alloc o').alloc o2) := (below2 W o o').alloc (below2 W o o').size _
set_option maxHeartbeats 1000000 in
theorem Norm_any (t : Int) (v : Vl) (W : World) (hv : v.ok) :
    Calls Try.prog 18 #[.int .i64 t, v.val] W fun e w' => e = .returned (norm t v).val ∧ Below W.heap.size W w' := by
  obtain ⟨k, b, bk, o⟩ := v
  have c1 := fun w W => isNumber_any w W
  have c2 := fun w W => Mask_any w W
  have c3 := fun w W => width_any w W
  have b0 := bV0
  have b1 := bV1
  have b2 := bV2
  have b3 := bV3
  show Calls _ _ #[.int .i64 t, .agg #[.int .i64 k, .int .u64 b, .int .i64 bk, .int .i64 o]] W _
  by_cases k1 : k = 1
  · subst k1
    cases ht : isW t with
    | true =>
      have e := norm_num (t := t) (v := ⟨1, b, bk, o⟩) rfl ht
      rw [e]
      have hI := isW_iff.1 ht
      have hm := and_msk t b hI.1 hI.2 hv.1 (by have := hv.2; simp only at this; omega)
      show Calls _ _ _ W fun e w' => e = .returned (.agg #[.int .i64 1, .int .u64 (b % pw t.toNat), .int .i64 0, .int .i64 0]) ∧ _
      rw [← hm]
      clear e hm hI hv
      go_enter Try.func18, Try.ntmps18
      go_wp2_with (first | ((with_reducible refine (c1 _ _).mono ?_); rintro e w' ⟨rfl, rfl⟩))
      go_region_with ((with_reducible refine (c2 _ _).mono ?_); rintro e w' ⟨rfl, rfl⟩)
      all_goals
        go_wp2_with fail
        exact bodyPost_ret (v := .agg #[.int .i64 1, .int .u64 (bits BinOp.and IntKind.u64 b (msk t)), .int .i64 0, .int .i64 0]) (by simp [results, Try.results18, go_sem]) rfl ⟨rfl, (below2 W _ _).drew⟩
    | false =>
      have e : norm t ⟨1, b, bk, o⟩ = p0 := by unfold norm; rw [if_neg (fun x => by rw [ht] at x; exact absurd x.2 (by decide)), if_neg (fun x => absurd (show (1 : Int) = 2 from x.1) (by decide)), if_neg (fun x => absurd (show (1 : Int) = 3 from x.1) (by decide))]
      rw [e]
      show Calls _ _ _ W fun e w' => e = .returned (.agg #[.int .i64 0, .int .u64 0, .int .i64 0, .int .i64 0]) ∧ _
      clear e hv
      go_enter Try.func18, Try.ntmps18
      go_wp2_with (first | ((with_reducible refine (c1 _ _).mono ?_); rintro e w' ⟨rfl, rfl⟩) | ((with_reducible refine (c3 _ _).mono ?_); rintro e w' ⟨rfl, rfl⟩))
      exact bodyPost_ret (v := .agg #[.int .i64 0, .int .u64 0, .int .i64 0, .int .i64 0]) (by simp [results, Try.results18, go_sem]) rfl ⟨rfl, below2 W _ _⟩
  · by_cases k2 : k = 2
    · subst k2
      clear k1 hv
      by_cases ht : t = 65
      · subst ht
        rw [norm_addr (v := ⟨2, b, bk, o⟩) rfl]
        show Calls _ _ _ W fun e w' => e = .returned (.agg #[.int .i64 2, .int .u64 0, .int .i64 bk, .int .i64 o]) ∧ _
        go_enter Try.func18, Try.ntmps18
        go_wp2_with (first | ((with_reducible refine (c1 _ _).mono ?_); rintro e w' ⟨rfl, rfl⟩) | ((with_reducible refine (c3 _ _).mono ?_); rintro e w' ⟨rfl, rfl⟩))
        exact bodyPost_ret (v := .agg #[.int .i64 2, .int .u64 0, .int .i64 bk, .int .i64 o]) (by simp [results, Try.results18, go_sem]) rfl ⟨rfl, below2 W _ _⟩
      · have e : norm t ⟨2, b, bk, o⟩ = p0 := by unfold norm; rw [if_neg (fun x => absurd (show (2 : Int) = 1 from x.1) (by decide)), if_neg (fun x => ht x.2), if_neg (fun x => absurd (show (2 : Int) = 3 from x.1) (by decide))]
        rw [e]
        have g1 : (t == 65) = false := by simpa using ht
        clear e ht
        show Calls _ _ _ W fun e w' => e = .returned (.agg #[.int .i64 0, .int .u64 0, .int .i64 0, .int .i64 0]) ∧ _
        go_enter Try.func18, Try.ntmps18
        go_wp2_with (first | ((with_reducible refine (c1 _ _).mono ?_); rintro e w' ⟨rfl, rfl⟩) | ((with_reducible refine (c3 _ _).mono ?_); rintro e w' ⟨rfl, rfl⟩))
        exact bodyPost_ret (v := .agg #[.int .i64 0, .int .u64 0, .int .i64 0, .int .i64 0]) (by simp [results, Try.results18, go_sem]) rfl ⟨rfl, below2 W _ _⟩
    · by_cases k3 : k = 3
      · subst k3
        clear k1 k2 hv
        by_cases hp : 0 < wd t
        · rw [norm_any (v := ⟨3, b, bk, o⟩) rfl hp]
          have hd : decide ((0 : Int) < (wd t : Int)) = true := decide_eq_true (by omega)
          have hp2 : (0 : Int) < (wd t : Int) := by omega
          obtain ⟨z, hz⟩ : ∃ z : Int, (wd t : Int) = z := ⟨_, rfl⟩
          simp only [hz] at hd hp2
          clear hp
          show Calls _ _ _ W fun e w' => e = .returned (.agg #[.int .i64 3, .int .u64 0, .int .i64 0, .int .i64 0]) ∧ _
          have c4 : ∀ W, Calls Try.prog 39 #[.int .i64 t] W fun e w' => e = .returned (.int .i64 z) ∧ W = w' := fun W => by
            have := c3 t W
            simp only [hz] at this
            exact this
          clear c3
          go_enter Try.func18, Try.ntmps18
          go_wp2_with (first | ((with_reducible refine (c1 _ _).mono ?_); rintro e w' ⟨rfl, rfl⟩) | ((with_reducible refine (c4 _).mono ?_); rintro e w' ⟨rfl, rfl⟩))
          exact bodyPost_ret (v := .agg #[.int .i64 3, .int .u64 0, .int .i64 0, .int .i64 0]) (by simp [results, Try.results18, go_sem]) rfl ⟨rfl, below2 W _ _⟩
        · have e : norm t ⟨3, b, bk, o⟩ = p0 := by unfold norm; rw [if_neg (fun x => absurd (show (3 : Int) = 1 from x.1) (by decide)), if_neg (fun x => absurd (show (3 : Int) = 2 from x.1) (by decide)), if_neg (fun x => hp x.2)]
          rw [e]
          have hz : wd t = 0 := by omega
          clear e hp
          show Calls _ _ _ W fun e w' => e = .returned (.agg #[.int .i64 0, .int .u64 0, .int .i64 0, .int .i64 0]) ∧ _
          have c4 : ∀ W, Calls Try.prog 39 #[.int .i64 t] W fun e w' => e = .returned (.int .i64 0) ∧ W = w' := fun W => by
            have := c3 t W
            rw [hz] at this
            exact this
          clear c3 hz
          go_enter Try.func18, Try.ntmps18
          go_wp2_with (first | ((with_reducible refine (c1 _ _).mono ?_); rintro e w' ⟨rfl, rfl⟩) | ((with_reducible refine (c4 _).mono ?_); rintro e w' ⟨rfl, rfl⟩))
          exact bodyPost_ret (v := .agg #[.int .i64 0, .int .u64 0, .int .i64 0, .int .i64 0]) (by simp [results, Try.results18, go_sem]) rfl ⟨rfl, below2 W _ _⟩
      · have e : norm t ⟨k, b, bk, o⟩ = p0 := by unfold norm; rw [if_neg (fun x => k1 x.1), if_neg (fun x => k2 x.1), if_neg (fun x => k3 x.1)]
        rw [e]
        have g1 : (k == 1) = false := by simpa using k1
        have g2 : (k == 2) = false := by simpa using k2
        have g3 : (k == 3) = false := by simpa using k3
        clear e k1 k2 k3 hv
        show Calls _ _ _ W fun e w' => e = .returned (.agg #[.int .i64 0, .int .u64 0, .int .i64 0, .int .i64 0]) ∧ _
        go_enter Try.func18, Try.ntmps18
        go_wp2_with (first | ((with_reducible refine (c1 _ _).mono ?_); rintro e w' ⟨rfl, rfl⟩) | ((with_reducible refine (c3 _ _).mono ?_); rintro e w' ⟨rfl, rfl⟩))
        exact bodyPost_ret (v := .agg #[.int .i64 0, .int .u64 0, .int .i64 0, .int .i64 0]) (by simp [results, Try.results18, go_sem]) rfl ⟨rfl, below2 W _ _⟩
end Go.Proofs.Ytpjfkmaceaikbaa
