/- Contract of bits.Convert: what every conversion makes of any number. Condition: the number is one of 64 bits. -/
import Derived.Test.YtpjfkmaceaikbaaBitsF
namespace Go.Proofs.Ytpjfkmaceaikbaa
open Go.RowKit
set_option linter.unusedVariables false
set_option linter.unusedSimpArgs false

theorem ret_vb {k : IntKind} {a b : Int} {c d : Bool} (h : a = b) (h' : c = d) : Ending.returned (.tuple #[.int k a, .bool c]) = .returned (.tuple #[.int k b, .bool d]) := by rw [h, h']

theorem Convert_f (op f t : Int) (v : Int) (hv : 0 ≤ v) (hv' : v ≤ 18446744073709551615) (wd : World) (cf : ∀ W, Calls Try.prog 57 #[.int .i64 f] W fun e w' => e = .returned (.bool false) ∧ W = w') (ct : ∀ W, Calls Try.prog 57 #[.int .i64 t] W fun e w' => e = .returned (.bool true) ∧ W = w') :
    Calls Try.prog 56 #[.int .i64 op, .int .i64 f, .int .i64 t, .int .u64 v] wd fun e w' => e = .returned (.tuple #[.int .u64 (0), .bool false]) ∧ wd = w' := by
  go_enter Try.func56, Try.ntmps56
  go_wp2_with (first | (go_at_call 57; first | ((with_reducible refine (cf _).mono ?_); rintro e w' ⟨rfl, rfl⟩) | ((with_reducible refine (ct _).mono ?_); rintro e w' ⟨rfl, rfl⟩)) | (go_at_call 38; refine (Mask_any _ _).mono ?_; rintro e w' ⟨rfl, rfl⟩) | (go_at_call 63; refine (Signed_any _ _ _).mono ?_; rintro e w' ⟨rfl, rfl⟩))
  go_ret2
  exact ⟨ret_vb (rfl) (rfl), rfl⟩
theorem Convert_f2 (op f t : Int) (v : Int) (hv : 0 ≤ v) (hv' : v ≤ 18446744073709551615) (wd : World) (cf : ∀ W, Calls Try.prog 57 #[.int .i64 f] W fun e w' => e = .returned (.bool false) ∧ W = w') (ct : ∀ W, Calls Try.prog 57 #[.int .i64 t] W fun e w' => e = .returned (.bool false) ∧ W = w') :
    Calls Try.prog 56 #[.int .i64 op, .int .i64 f, .int .i64 t, .int .u64 v] wd fun e w' => e = .returned (.tuple #[.int .u64 (0), .bool false]) ∧ wd = w' := by
  go_enter Try.func56, Try.ntmps56
  go_wp2_with (first | (go_at_call 57; first | ((with_reducible refine (cf _).mono ?_); rintro e w' ⟨rfl, rfl⟩) | ((with_reducible refine (ct _).mono ?_); rintro e w' ⟨rfl, rfl⟩)) | (go_at_call 38; refine (Mask_any _ _).mono ?_; rintro e w' ⟨rfl, rfl⟩) | (go_at_call 63; refine (Signed_any _ _ _).mono ?_; rintro e w' ⟨rfl, rfl⟩))
  go_ret2
  exact ⟨ret_vb (rfl) (rfl), rfl⟩
theorem Convert_t (op f t : Int) (v : Int) (hv : 0 ≤ v) (hv' : v ≤ 18446744073709551615) (wd : World) (cf : ∀ W, Calls Try.prog 57 #[.int .i64 f] W fun e w' => e = .returned (.bool true) ∧ W = w') (ct : ∀ W, Calls Try.prog 57 #[.int .i64 t] W fun e w' => e = .returned (.bool false) ∧ W = w') :
    Calls Try.prog 56 #[.int .i64 op, .int .i64 f, .int .i64 t, .int .u64 v] wd fun e w' => e = .returned (.tuple #[.int .u64 (0), .bool false]) ∧ wd = w' := by
  go_enter Try.func56, Try.ntmps56
  go_wp2_with (first | (go_at_call 57; first | ((with_reducible refine (cf _).mono ?_); rintro e w' ⟨rfl, rfl⟩) | ((with_reducible refine (ct _).mono ?_); rintro e w' ⟨rfl, rfl⟩)) | (go_at_call 38; refine (Mask_any _ _).mono ?_; rintro e w' ⟨rfl, rfl⟩) | (go_at_call 63; refine (Signed_any _ _ _).mono ?_; rintro e w' ⟨rfl, rfl⟩))
  go_ret2
  exact ⟨ret_vb (rfl) (rfl), rfl⟩
theorem Convert_20 (f t : Int) (v : Int) (hv : 0 ≤ v) (hv' : v ≤ 18446744073709551615) (wd : World) (cf : ∀ W, Calls Try.prog 57 #[.int .i64 f] W fun e w' => e = .returned (.bool true) ∧ W = w') (ct : ∀ W, Calls Try.prog 57 #[.int .i64 t] W fun e w' => e = .returned (.bool true) ∧ W = w') (h : f < t) (h1 : 1 ≤ f) (h2 : f ≤ 64) :
    Calls Try.prog 56 #[.int .i64 20, .int .i64 f, .int .i64 t, .int .u64 v] wd fun e w' => e = .returned (.tuple #[.int .u64 (v % pw f.toNat), .bool true]) ∧ wd = w' := by
  go_enter Try.func56, Try.ntmps56
  go_wp2_with (first | (go_at_call 57; first | ((with_reducible refine (cf _).mono ?_); rintro e w' ⟨rfl, rfl⟩) | ((with_reducible refine (ct _).mono ?_); rintro e w' ⟨rfl, rfl⟩)) | (go_at_call 38; refine (Mask_any _ _).mono ?_; rintro e w' ⟨rfl, rfl⟩) | (go_at_call 63; refine (Signed_any _ _ _).mono ?_; rintro e w' ⟨rfl, rfl⟩))
  go_ret2
  exact ⟨ret_vb (and_msk f v h1 h2 hv (by omega)) (rfl), rfl⟩
theorem Convert_21 (f t : Int) (v : Int) (hv : 0 ≤ v) (hv' : v ≤ 18446744073709551615) (wd : World) (cf : ∀ W, Calls Try.prog 57 #[.int .i64 f] W fun e w' => e = .returned (.bool true) ∧ W = w') (ct : ∀ W, Calls Try.prog 57 #[.int .i64 t] W fun e w' => e = .returned (.bool true) ∧ W = w') (h : f < t) (h1 : 1 ≤ t) (h2 : t ≤ 64) :
    Calls Try.prog 56 #[.int .i64 21, .int .i64 f, .int .i64 t, .int .u64 v] wd fun e w' => e = .returned (.tuple #[.int .u64 (sgn f v % pw t.toNat), .bool true]) ∧ wd = w' := by
  go_enter Try.func56, Try.ntmps56
  go_wp2_with (first | (go_at_call 57; first | ((with_reducible refine (cf _).mono ?_); rintro e w' ⟨rfl, rfl⟩) | ((with_reducible refine (ct _).mono ?_); rintro e w' ⟨rfl, rfl⟩)) | (go_at_call 38; refine (Mask_any _ _).mono ?_; rintro e w' ⟨rfl, rfl⟩) | (go_at_call 63; refine (Signed_any _ _ _).mono ?_; rintro e w' ⟨rfl, rfl⟩))
  go_ret2
  exact ⟨ret_vb (and_msk_wrap t _ h1 h2) (rfl), rfl⟩
theorem Convert_22 (f t : Int) (v : Int) (hv : 0 ≤ v) (hv' : v ≤ 18446744073709551615) (wd : World) (cf : ∀ W, Calls Try.prog 57 #[.int .i64 f] W fun e w' => e = .returned (.bool true) ∧ W = w') (ct : ∀ W, Calls Try.prog 57 #[.int .i64 t] W fun e w' => e = .returned (.bool true) ∧ W = w') (h : t < f) (h1 : 1 ≤ t) (h2 : t ≤ 64) :
    Calls Try.prog 56 #[.int .i64 22, .int .i64 f, .int .i64 t, .int .u64 v] wd fun e w' => e = .returned (.tuple #[.int .u64 (v % pw t.toNat), .bool true]) ∧ wd = w' := by
  go_enter Try.func56, Try.ntmps56
  go_wp2_with (first | (go_at_call 57; first | ((with_reducible refine (cf _).mono ?_); rintro e w' ⟨rfl, rfl⟩) | ((with_reducible refine (ct _).mono ?_); rintro e w' ⟨rfl, rfl⟩)) | (go_at_call 38; refine (Mask_any _ _).mono ?_; rintro e w' ⟨rfl, rfl⟩) | (go_at_call 63; refine (Signed_any _ _ _).mono ?_; rintro e w' ⟨rfl, rfl⟩))
  go_ret2
  exact ⟨ret_vb (and_msk t v h1 h2 hv (by omega)) (rfl), rfl⟩
theorem Convert_20n (f t : Int) (v : Int) (hv : 0 ≤ v) (hv' : v ≤ 18446744073709551615) (wd : World) (cf : ∀ W, Calls Try.prog 57 #[.int .i64 f] W fun e w' => e = .returned (.bool true) ∧ W = w') (ct : ∀ W, Calls Try.prog 57 #[.int .i64 t] W fun e w' => e = .returned (.bool true) ∧ W = w') (h : ¬ f < t) :
    Calls Try.prog 56 #[.int .i64 20, .int .i64 f, .int .i64 t, .int .u64 v] wd fun e w' => e = .returned (.tuple #[.int .u64 (0), .bool false]) ∧ wd = w' := by
  go_enter Try.func56, Try.ntmps56
  go_wp2_with (first | (go_at_call 57; first | ((with_reducible refine (cf _).mono ?_); rintro e w' ⟨rfl, rfl⟩) | ((with_reducible refine (ct _).mono ?_); rintro e w' ⟨rfl, rfl⟩)) | (go_at_call 38; refine (Mask_any _ _).mono ?_; rintro e w' ⟨rfl, rfl⟩) | (go_at_call 63; refine (Signed_any _ _ _).mono ?_; rintro e w' ⟨rfl, rfl⟩))
  go_ret2
  exact ⟨ret_vb (rfl) (rfl), rfl⟩
theorem Convert_21n (f t : Int) (v : Int) (hv : 0 ≤ v) (hv' : v ≤ 18446744073709551615) (wd : World) (cf : ∀ W, Calls Try.prog 57 #[.int .i64 f] W fun e w' => e = .returned (.bool true) ∧ W = w') (ct : ∀ W, Calls Try.prog 57 #[.int .i64 t] W fun e w' => e = .returned (.bool true) ∧ W = w') (h : ¬ f < t) :
    Calls Try.prog 56 #[.int .i64 21, .int .i64 f, .int .i64 t, .int .u64 v] wd fun e w' => e = .returned (.tuple #[.int .u64 (0), .bool false]) ∧ wd = w' := by
  go_enter Try.func56, Try.ntmps56
  go_wp2_with (first | (go_at_call 57; first | ((with_reducible refine (cf _).mono ?_); rintro e w' ⟨rfl, rfl⟩) | ((with_reducible refine (ct _).mono ?_); rintro e w' ⟨rfl, rfl⟩)) | (go_at_call 38; refine (Mask_any _ _).mono ?_; rintro e w' ⟨rfl, rfl⟩) | (go_at_call 63; refine (Signed_any _ _ _).mono ?_; rintro e w' ⟨rfl, rfl⟩))
  go_ret2
  exact ⟨ret_vb (rfl) (rfl), rfl⟩
theorem Convert_22n (f t : Int) (v : Int) (hv : 0 ≤ v) (hv' : v ≤ 18446744073709551615) (wd : World) (cf : ∀ W, Calls Try.prog 57 #[.int .i64 f] W fun e w' => e = .returned (.bool true) ∧ W = w') (ct : ∀ W, Calls Try.prog 57 #[.int .i64 t] W fun e w' => e = .returned (.bool true) ∧ W = w') (h : ¬ t < f) :
    Calls Try.prog 56 #[.int .i64 22, .int .i64 f, .int .i64 t, .int .u64 v] wd fun e w' => e = .returned (.tuple #[.int .u64 (0), .bool false]) ∧ wd = w' := by
  go_enter Try.func56, Try.ntmps56
  go_wp2_with (first | (go_at_call 57; first | ((with_reducible refine (cf _).mono ?_); rintro e w' ⟨rfl, rfl⟩) | ((with_reducible refine (ct _).mono ?_); rintro e w' ⟨rfl, rfl⟩)) | (go_at_call 38; refine (Mask_any _ _).mono ?_; rintro e w' ⟨rfl, rfl⟩) | (go_at_call 63; refine (Signed_any _ _ _).mono ?_; rintro e w' ⟨rfl, rfl⟩))
  go_ret2
  exact ⟨ret_vb (rfl) (rfl), rfl⟩
theorem Convert_n (op f t : Int) (v : Int) (hv : 0 ≤ v) (hv' : v ≤ 18446744073709551615) (wd : World) (cf : ∀ W, Calls Try.prog 57 #[.int .i64 f] W fun e w' => e = .returned (.bool true) ∧ W = w') (ct : ∀ W, Calls Try.prog 57 #[.int .i64 t] W fun e w' => e = .returned (.bool true) ∧ W = w') (k1 : (op == 20) = false) (k2 : (op == 21) = false) (k3 : (op == 22) = false) :
    Calls Try.prog 56 #[.int .i64 op, .int .i64 f, .int .i64 t, .int .u64 v] wd fun e w' => e = .returned (.tuple #[.int .u64 (0), .bool false]) ∧ wd = w' := by
  go_enter Try.func56, Try.ntmps56
  go_wp2_with (first | (go_at_call 57; first | ((with_reducible refine (cf _).mono ?_); rintro e w' ⟨rfl, rfl⟩) | ((with_reducible refine (ct _).mono ?_); rintro e w' ⟨rfl, rfl⟩)) | (go_at_call 38; refine (Mask_any _ _).mono ?_; rintro e w' ⟨rfl, rfl⟩) | (go_at_call 63; refine (Signed_any _ _ _).mono ?_; rintro e w' ⟨rfl, rfl⟩))
  go_ret2
  exact ⟨ret_vb (rfl) (rfl), rfl⟩

theorem Convert_any (op f t : Int) (v : Int) (hv : 0 ≤ v) (hv' : v ≤ 18446744073709551615) (wd : World) :
    Calls Try.prog 56 #[.int .i64 op, .int .i64 f, .int .i64 t, .int .u64 v] wd fun e w' => e = .returned (.tuple #[.int .u64 (cvV op f t v), .bool (cvB op f t)]) ∧ wd = w' := by
  have cf := isWidth_any f
  have ct := isWidth_any t
  have none : cvB op f t = false → Calls Try.prog 56 #[.int .i64 op, .int .i64 f, .int .i64 t, .int .u64 v] wd (fun e w' => e = .returned (.tuple #[.int .u64 0, .bool false]) ∧ wd = w') →
      Calls Try.prog 56 #[.int .i64 op, .int .i64 f, .int .i64 t, .int .u64 v] wd (fun e w' => e = .returned (.tuple #[.int .u64 (cvV op f t v), .bool (cvB op f t)]) ∧ wd = w') := by
    intro hb hc
    rw [cvV, hb]
    exact hc
  have some : ∀ x, cvB op f t = true → cvV op f t v = x → Calls Try.prog 56 #[.int .i64 op, .int .i64 f, .int .i64 t, .int .u64 v] wd (fun e w' => e = .returned (.tuple #[.int .u64 x, .bool true]) ∧ wd = w') →
      Calls Try.prog 56 #[.int .i64 op, .int .i64 f, .int .i64 t, .int .u64 v] wd (fun e w' => e = .returned (.tuple #[.int .u64 (cvV op f t v), .bool (cvB op f t)]) ∧ wd = w') := by
    intro x hb hx hc
    rw [hx, hb]
    exact hc
  cases hf : isW f
  · rw [hf] at cf
    cases ht : isW t
    · rw [ht] at ct
      exact none (by simp [cvB, hf]) (Convert_f2 op f t v hv hv' wd cf ct)
    · rw [ht] at ct
      exact none (by simp [cvB, hf]) (Convert_f op f t v hv hv' wd cf ct)
  · rw [hf] at cf
    cases ht : isW t
    · rw [ht] at ct
      exact none (by simp [cvB, hf, ht]) (Convert_t op f t v hv hv' wd cf ct)
    · rw [ht] at ct
      obtain ⟨f1, f2⟩ := isW_iff.1 hf
      obtain ⟨t1, t2⟩ := isW_iff.1 ht
      by_cases k1 : op = 20
      · subst k1
        by_cases h : f < t
        · exact some _ (by simp [cvB, hf, ht, h]) (by simp [cvV, cvB, hf, ht, h]) (Convert_20 f t v hv hv' wd cf ct h f1 f2)
        · exact none (by simp [cvB, hf, ht]; omega) (Convert_20n f t v hv hv' wd cf ct h)
      · by_cases k2 : op = 21
        · subst k2
          by_cases h : f < t
          · exact some _ (by simp [cvB, hf, ht, h]) (by simp [cvV, cvB, hf, ht, h]) (Convert_21 f t v hv hv' wd cf ct h t1 t2)
          · exact none (by simp [cvB, hf, ht]; omega) (Convert_21n f t v hv hv' wd cf ct h)
        · by_cases k3 : op = 22
          · subst k3
            by_cases h : t < f
            · exact some _ (by simp [cvB, hf, ht, h]) (by simp [cvV, cvB, hf, ht, h]) (Convert_22 f t v hv hv' wd cf ct h t1 t2)
            · exact none (by simp [cvB, hf, ht]; omega) (Convert_22n f t v hv hv' wd cf ct h)
          · exact none (by simp [cvB, hf, ht, k1, k2, k3]) (Convert_n op f t v hv hv' wd cf ct (by simpa using k1) (by simpa using k2) (by simpa using k3))
end Go.Proofs.Ytpjfkmaceaikbaa
