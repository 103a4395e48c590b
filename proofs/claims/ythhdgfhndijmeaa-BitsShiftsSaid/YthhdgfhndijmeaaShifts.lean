/- For every width, any two numbers and any count: a shift to the left is a product, one to the right a quotient, an Ashr keeps the order of numbers with a sign: lathelaw01.BitsShifts returns true, and leaves its arguments as they were. No conditions. -/
import Derived.Test.YthhdgfhndijmeaaRows
import Derived.WalkKit
import Derived.ProofKit
import Derived.OpenShut
import Derived.Test.YthhdgfhndijmeaaBitsH
namespace Go.Proofs.Ythhdgfhndijmeaa.bitsShifts
open Go.ChangeShapes Go.WideShapes Go.ChangeAt Go.RowKit
set_option linter.unusedVariables false      -- a walk need not use every 'w<i>' (that an integer argument fits its kind)

theorem own : ownKnob Try.prog.godebug = none := by kernel_rfl

theorem pw_dvd {m n : Nat} (h : m ≤ n) : pw m ∣ pw n := ⟨pw (n - m), by rw [← pw_add]; congr 1; omega⟩
theorem back_iff {n k : Nat} {x s : Int} (hk : k ≤ n) (hs : ∃ q, x = s + pw n * q) (hx : 0 ≤ x) (hx' : x < pw n) : (s / pw k % pw n * pw k % pw n == x) = (x % pw k == 0) := by
  obtain ⟨q, rfl⟩ := hs
  obtain ⟨d, hd⟩ := pw_dvd hk
  have hp := pw_pos k
  have e1 : (s + pw n * q) % pw k = s % pw k := by rw [hd, Int.mul_assoc, Int.add_mul_emod_self_left]
  have e2 : s / pw k % pw n * pw k % pw n = (s - s % pw k) % pw n := by
    rw [Int.mul_emod, Int.emod_emod, ← Int.mul_emod, Int.mul_comm]
    have := Int.emod_add_mul_ediv s (pw k)
    congr 1; omega
  have e3 : s + pw n * q = s % pw n := by
    rw [← Int.emod_eq_of_lt hx hx', Int.add_mul_emod_self_left]
  rw [e1, e2, Bool.eq_iff_iff]
  simp only [beq_iff_eq]
  constructor
  · intro h
    have h2 : (s - s % pw k) % pw n % pw k = (s + pw n * q) % pw k := by rw [h]
    rw [e1, Int.emod_emod_of_dvd _ ⟨d, hd⟩, Int.sub_emod, Int.emod_emod, Int.sub_self, Int.zero_emod] at h2
    exact h2.symm
  · intro h
    rw [h, Int.sub_zero, e3]
theorem sgn_shift {w a k : Int} (h1 : 1 ≤ w) (h2 : w ≤ 64) : sgn w (sgn w a / pw k.toNat % pw w.toNat) = sgn w a / pw k.toNat := by
  have hq := pw_pos w.toNat
  have hp := pw_pos k.toNat
  have hb : -pw (w.toNat - 1) ≤ sgn w a ∧ sgn w a < pw (w.toNat - 1) := by
    rw [sgn_in a h1 h2]
    exact sg_bd (by omega) (Int.emod_nonneg a (by omega)) (Int.emod_lt_of_pos a hq)
  rw [sgn_in _ h1 h2, Int.emod_emod]
  refine sg_uniq (by omega) ⟨0, by omega⟩ ?_ ?_
  · rw [Int.le_ediv_iff_mul_le hp]
    have := Int.mul_le_mul_of_nonneg_left (show 1 ≤ pw k.toNat by omega) (show 0 ≤ pw (w.toNat - 1) by have := pw_pos (w.toNat - 1); omega)
    rw [Int.neg_mul]; omega
  · rw [Int.ediv_lt_iff_lt_mul hp]
    have := Int.mul_le_mul_of_nonneg_left (show 1 ≤ pw k.toNat by omega) (show 0 ≤ pw (w.toNat - 1) by have := pw_pos (w.toNat - 1); omega)
    omega

/-! ### STEP 1: THE WALK: the Go text returns true. 'Grown w w'': the world has at most new blocks (Derived/RowKit3.lean). Part the cases AHEAD of 'go_enter' where a test parts the walk; take each callee by a contract of your own. -/
set_option maxHeartbeats 2000000 in
theorem walk (a0 : Int) (a1 : Int) (a2 : Int) (a3 : Int) (w0 : (Lit.int .i64 a0).wf = true) (w1 : (Lit.int .u64 a1).wf = true) (w2 : (Lit.int .u64 a2).wf = true) (w3 : (Lit.int .i64 a3).wf = true) (w : World) :
    Calls Try.prog 9 #[.int .i64 a0, .int .u64 a1, .int .u64 a2, .int .i64 a3] w fun e w' => e = .returned (.bool true) ∧ Grown w w' := by
  obtain ⟨l0, u0⟩ := i64_wf w0
  obtain ⟨l1, u1⟩ := u64_wf w1
  obtain ⟨l2, u2⟩ := u64_wf w2
  obtain ⟨l3, u3⟩ := i64_wf w3
  have cl := lives_gives
  have cw := width_gives a0 l0 u0
  obtain ⟨g1, g2⟩ := wid_bd a0
  generalize wid a0 = v at *
  clear w0 w1 w2 w3 l0 u0
  have k0 : 0 ≤ IntKind.u64.wrap a3 := by rw [u64w]; omega
  have k1 : 0 ≤ IntKind.u64.wrap a3 % v := Int.emod_nonneg _ (by omega)
  have k2 : IntKind.u64.wrap a3 % v < v := Int.emod_lt_of_pos _ (by omega)
  obtain ⟨k, hk⟩ : ∃ k, IntKind.u64.wrap a3 % v = k := ⟨_, rfl⟩
  rw [hk] at k1 k2
  have U := fun z => mod_u64 z g1 g2
  have pp := pw_pos k.toNat
  have p63 := pw_le63 (n := k.toNat) (by omega)
  have hP : IntKind.u64.wrap (2 ^ k.toNat) = pw k.toNat := by rw [u64w, pw_eq]; omega
  have pN : pw k.toNat < pw v.toNat := by
    have h := pw_mono (m := k.toNat) (n := v.toNat - 1) (by omega)
    have h' := pw_half (n := v.toNat) (by omega)
    omega
  have vN : v < pw v.toNat := by
    have key : ∀ k : Nat, k < 65 → (k : Int) < pw k := by decide +kernel
    have := key v.toNat (by omega)
    omega
  have hm := msk_in g1 g2
  have hq := pw_pos v.toNat
  have hX0 := Int.emod_nonneg a1 (show pw v.toNat ≠ 0 by omega)
  have hX1 := Int.emod_lt_of_pos a1 hq
  have cm := Gives.of_same (Mask_any v)
  have hA := and_msk v a1 g1 g2 l1 (by omega)
  have c1 := of_11 v a1 k g1 g2 l1 u1 k1 k2
  have c2 := of_3 v a1 (pw k.toNat) g1 g2 l1 u1 (by omega) (by omega)
  have c3 := of_12 v a1 k g1 g2 l1 u1 k1 k2
  have c4 := (of_4 v a1 (pw k.toNat) g1 g2 l1 u1 (by omega) (by omega)).as (u := .int .u64 (a1 % pw v.toNat / pw k.toNat)) (one_eq (by rw [Int.emod_eq_of_lt (a := pw k.toNat) (by omega) pN]))
  have c5 := (Apply_11 v 0 a1 v g1 g2 l1 u1 (by omega) (by omega) (by decide)).as (u := .tuple #[.int .u64 0, .int .i64 1]) (by
    have hE : plE v.toNat 11 (a1 % pw v.toNat) v = 1 := by
      rw [plE, if_neg (by decide), if_neg (by decide), if_pos (by decide), if_pos (by omega)]
    rw [aplT, Int.emod_eq_of_lt (a := v) (by omega) vN]
    exact two_eq (by rw [aplR, aplE, hE]; rfl) (by rw [aplE, hE]; rfl))
  have c6 := (Apply_13 v 4 a1 k g1 g2 l1 u1 k1 (by omega) (by decide)).as (u := .tuple #[.int .u64 (aplR v.toNat 13 4 (a1 % pw v.toNat) k), .int .i64 (if a1 % pw v.toNat % pw k.toNat == 0 then 0 else 1)]) (by
    have hE : plE v.toNat 13 (a1 % pw v.toNat) k = 0 := by
      rw [plE, if_neg (by decide), if_neg (by decide), if_pos (by decide), if_neg (by omega)]
    rw [aplT, count_mod g1 g2 k1 k2]
    refine two_eq rfl ?_
    rw [aplE, hE]
    by_cases hz : a1 % pw v.toNat % pw k.toNat = 0 <;> simp [brB, lrB, hz])
  have c7 := of_13 v a1 k g1 g2 l1 u1 k1 k2
  have c8 := of_11 v (sgn v a1 / pw k.toNat % pw v.toNat) k g1 g2 (U _).1 (U _).2 k1 k2
  have hB := back_iff (n := v.toNat) (k := k.toNat) (x := a1 % pw v.toNat) (s := sgn v a1) (by omega) (by rw [sgn_in a1 g1 g2]; exact sg_cong _) hX0 hX1
  have c9 := of_13 v a2 k g1 g2 l2 u2 k1 k2
  have c10 := (Gives.of_same (Signed_any v (sgn v a1 / pw k.toNat % pw v.toNat))).as (u := .int .i64 (sgn v a1 / pw k.toNat)) (one_eq (sgn_shift g1 g2))
  have c11 := (Gives.of_same (Signed_any v (sgn v a2 / pw k.toNat % pw v.toNat))).as (u := .int .i64 (sgn v a2 / pw k.toNat)) (one_eq (sgn_shift g1 g2))
  have c12 := Gives.of_same (Signed_any v a1)
  have c13 := Gives.of_same (Signed_any v a2)
  have hle : sgn v a1 ≤ sgn v a2 → sgn v a1 / pw k.toNat ≤ sgn v a2 / pw k.toNat := fun h => Int.ediv_le_ediv pp h
  have q1 : pw k.toNat ≤ msk v := by omega
  have q2 : v ≤ msk v := by omega
  clear U hm hq vN pN p63 hX0 hX1
  generalize aplR v.toNat 13 4 (a1 % pw v.toNat) k = R at *
  generalize sgn v a1 / pw k.toNat % pw v.toNat * pw k.toNat % pw v.toNat = B at *
  generalize sgn v a1 / pw k.toNat % pw v.toNat = A at *
  generalize sgn v a2 / pw k.toNat % pw v.toNat = D at *
  generalize sgn v a1 / pw k.toNat = s' at *
  generalize sgn v a2 / pw k.toNat = t' at *
  generalize sgn v a1 = s at *
  generalize sgn v a2 = t at *
  generalize a1 % pw v.toNat / pw k.toNat = Q at *
  generalize (a1 % pw v.toNat % pw k.toNat == 0) = z at *
  generalize a1 % pw v.toNat = X at *
  generalize a1 * pw k.toNat % pw v.toNat = S at *
  generalize pw k.toNat = P at *
  generalize msk v = m at *
  have fin : ∀ n, Grown w (w.drewN n) := fun n => grown_drewN w n
  have hst : (t < s) ∨ (s ≤ t ∧ s' ≤ t') := by
    by_cases h : t < s
    · exact .inl h
    · exact .inr ⟨by omega, hle (by omega)⟩
  clear hle
  cases z
  all_goals
    simp only [if_true, if_false, Bool.false_eq_true] at c6
    by_cases d1 : 0 < k <;> by_cases d2 : k < v - 1 <;> by_cases d3 : v = 64
  all_goals
    try subst d3
    try (exfalso; omega)
  all_goals
    rcases hst with hst | ⟨hst, hst'⟩
  all_goals
    go_enter Try.func9, Try.ntmps9
    go_wp2_with (first
      | ((with_reducible refine (cl.go _).mono ?_); rintro e w' ⟨rfl, n0, rfl⟩)
      | ((with_reducible refine (cw.go _).mono ?_); rintro e w' ⟨rfl, n0, rfl⟩)
      | ((with_reducible refine (cm.go _).mono ?_); rintro e w' ⟨rfl, n0, rfl⟩)
      | ((with_reducible refine (c1.go _).mono ?_); rintro e w' ⟨rfl, n0, rfl⟩)
      | ((with_reducible refine (c2.go _).mono ?_); rintro e w' ⟨rfl, n0, rfl⟩)
      | ((with_reducible refine (c3.go _).mono ?_); rintro e w' ⟨rfl, n0, rfl⟩)
      | ((with_reducible refine (c4.go _).mono ?_); rintro e w' ⟨rfl, n0, rfl⟩)
      | ((with_reducible refine (c5.go _).mono ?_); rintro e w' ⟨rfl, n0, rfl⟩)
      | ((with_reducible refine (c6.go _).mono ?_); rintro e w' ⟨rfl, n0, rfl⟩)
      | ((with_reducible refine (c7.go _).mono ?_); rintro e w' ⟨rfl, n0, rfl⟩)
      | ((with_reducible refine (c8.go _).mono ?_); rintro e w' ⟨rfl, n0, rfl⟩)
      | ((with_reducible refine (c9.go _).mono ?_); rintro e w' ⟨rfl, n0, rfl⟩)
      | ((with_reducible refine (c10.go _).mono ?_); rintro e w' ⟨rfl, n0, rfl⟩)
      | ((with_reducible refine (c11.go _).mono ?_); rintro e w' ⟨rfl, n0, rfl⟩)
      | ((with_reducible refine (c12.go _).mono ?_); rintro e w' ⟨rfl, n0, rfl⟩)
      | ((with_reducible refine (c13.go _).mono ?_); rintro e w' ⟨rfl, n0, rfl⟩))
    go_ret
    exact ⟨rfl, fin _⟩

/-! ### THE ROW's STEP: WRITTEN OUT: LEAVE IT -/
set_option maxRecDepth 100000 in
theorem lifted (os : Os) (started : os.Started) (H : Type) (enc : TypeId × Value → H) :
    ReturnsInHanded {} Try.checked os 9 .any (Rows.bitsShiftsSpec.pre6 enc Try.prog Try.f9 Rows.bitsShiftsRow.domain false) (Rows.bitsShiftsSpec.post enc Try.prog Try.f9 false true false false) := by
  refine returnsInHanded_of_change (C := Try.checked) own started (by kernel_rfl) Try.func9
    (ChangeSpec.witness6 (enc := enc) (C := Try.checked) false ⟨#[], #[.int .i64 0, .int .u64 0, .int .u64 0, .int .i64 0], []⟩ 8 (by kernel_rfl) (by kernel_rfl) (by kernel_rfl) (by kernel_rfl)) ?_
  intro W base args ds gs before hval0 hW hcnd _
  have hval : ∀ (j : Nat) t v, Try.f9.params[j]? = some t → args[j]? = some v → Value.okWide Try.prog W .any base t v := hval0
  have hW' := hW
  obtain ⟨p, q, hA0, hV, rfl, hfz, hnd⟩ := hW
  have hA : DataW.TrodAll enc Try.prog W 0 (fun _ => true) true Try.f9.params.toList args.toList ds p := hA0
  rw [Try.params9] at hA hval
  obtain ⟨v0, vs0, d0, ds0, p0, q0, hargs, rfl, rfl, h0, r0⟩ := trodAll_cons hA
  obtain ⟨v1, vs1, d1, ds1, p1, q1, rfl, rfl, rfl, h1, r1⟩ := trodAll_cons r0
  obtain ⟨v2, vs2, d2, ds2, p2, q2, rfl, rfl, rfl, h2, r2⟩ := trodAll_cons r1
  obtain ⟨v3, vs3, d3, ds3, p3, q3, rfl, rfl, rfl, h3, r3⟩ := trodAll_cons r2
  obtain ⟨rfl, rfl, rfl⟩ := trodAll_nil r3
  obtain rfl : args = #[v0, v1, v2, v3] := by cases args; simp_all
  obtain ⟨rfl, rfl⟩ := trodVars_none hV
  obtain ⟨a0, rfl, rfl, rfl, w0⟩ := open_int Try.underlying3 (hval 0 3 v0 rfl rfl) h0
  obtain ⟨a1, rfl, rfl, rfl, w1⟩ := open_int Try.underlying22 (hval 1 22 v1 rfl rfl) h1
  obtain ⟨a2, rfl, rfl, rfl, w2⟩ := open_int Try.underlying22 (hval 2 22 v2 rfl rfl) h2
  obtain ⟨a3, rfl, rfl, rfl, w3⟩ := open_int Try.underlying3 (hval 3 3 v3 rfl rfl) h3
  clear hA0 hval0
  simp only [List.append_nil] at hW'
  refine (walk a0 a1 a2 a3 w0 w1 w2 w3 W).mono fun e W' ⟨he, hg⟩ => ?_
  subst he
  exact ⟨_, rfl, post_of_same (pa := []) (pv := []) hW' (fun _ _ _ => (trodAll_cons_mk (shut_bool Try.underlying4 _) trodAll_mk0)) (fun sp _ => (trodAll_cons_mk (shut_int Try.underlying3 w0) (trodAll_cons_mk (shut_int Try.underlying22 w1) (trodAll_cons_mk (shut_int Try.underlying22 w2) (trodAll_cons_mk (shut_int Try.underlying3 w3) trodAll_mk0))))) (fun _ _ => rfl) rfl
    (hg.frame _) hg.2.1 (ok_one (by kernel_rfl) rfl (okWide_bool_mk Try.underlying4 _))⟩

theorem over : Rows.bitsShiftsRow.holds Try.pinned (OpenSpec.ofChange Rows.bitsShiftsSpec) :=
  OpenClaim.holds_of_wide 9 Try.f9 rfl rfl rfl rfl rfl rfl rfl ⟨rfl, rfl, rfl, rfl, rfl⟩ rfl rfl rfl rfl rfl (by kernel_rfl) Try.func9 (by kernel_rfl)
    (of_decide_eq_true (by kernel_rfl)) (by unfold Func.isWrapper; first | (rw [if_pos (by decide +kernel)]; kernel_rfl) | (rw [if_neg (by decide +kernel)]; exact ⟨rfl, rfl⟩))
    (fun os started H enc _ => lifted os started H enc)

/-- ████ THE STATEMENT ████ -/
theorem proved : Rows.BitsShiftsSaid :=
  over
#print axioms proved
end Go.Proofs.Ythhdgfhndijmeaa.bitsShifts
