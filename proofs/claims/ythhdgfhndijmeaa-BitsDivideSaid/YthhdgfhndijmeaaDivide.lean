/- For every width and any two numbers: a quotient times the divisor, and the rest, are the number, and the rest is smaller than the divisor (with a sign: it has the number's sign): lathelaw01.BitsDivide returns true, and leaves its arguments as they were. No conditions. -/
import Derived.Test.YthhdgfhndijmeaaRows
import Derived.WalkKit
import Derived.ProofKit
import Derived.OpenShut
import Derived.Test.YthhdgfhndijmeaaBitsH
namespace Go.Proofs.Ythhdgfhndijmeaa.bitsDivide
open Go.ChangeShapes Go.WideShapes Go.ChangeAt Go.RowKit
set_option linter.unusedVariables false      -- a walk need not use every 'w<i>' (that an integer argument fits its kind)

theorem own : ownKnob Try.prog.godebug = none := by kernel_rfl

theorem aplT_dv (w op a b E V : Int) (hE : plE w.toNat op (a % pw w.toNat) (b % pw w.toNat) = E) (hV : E = 0 → plV w.toNat op (a % pw w.toNat) (b % pw w.toNat) = V) (hV' : E ≠ 0 → V = 0) :
    aplT w op 0 a b = .tuple #[.int .u64 V, .int .i64 E] := by
  have e : aplE w.toNat op 0 (a % pw w.toNat) (b % pw w.toNat) = E := by rw [aplE, hE]; simp [brB]; omega
  refine two_eq ?_ e
  rw [aplR, e]
  by_cases h : E = 0
  · rw [if_pos h]; exact hV h
  · rw [if_neg h, hV' h]
theorem tmod_bd {s t : Int} (h : t ≠ 0) : -mag t < s.tmod t ∧ s.tmod t < mag t := by
  by_cases ht : t < 0
  · have h1 := Int.tmod_lt_of_pos s (b := -t) (by omega)
    have h2 := Int.tmod_lt_of_pos (-s) (b := -t) (by omega)
    rw [Int.neg_tmod] at h2
    rw [Int.tmod_neg] at h1 h2
    rw [mag, if_pos ht]; omega
  · have h1 := Int.tmod_lt_of_pos s (b := t) (by omega)
    have h2 := Int.tmod_lt_of_pos (-s) (b := t) (by omega)
    rw [Int.neg_tmod] at h2
    rw [mag, if_neg ht]; omega
theorem tmod_sign (s t : Int) : (s.tmod t == 0 || (decide (s.tmod t < 0) == decide (s < 0))) = true := by
  by_cases h : s < 0
  · have : s.tmod t ≤ 0 := by
      have := Int.tmod_nonneg (a := -s) t (by omega)
      rw [Int.neg_tmod] at this; omega
    simp [h]; omega
  · have := Int.tmod_nonneg (a := s) t (by omega)
    simp [h]; omega

/-! ### STEP 1: THE WALK: the Go text returns true. 'Grown w w'': the world has at most new blocks (Derived/RowKit3.lean). Part the cases AHEAD of 'go_enter' where a test parts the walk; take each callee by a contract of your own. -/
set_option maxHeartbeats 2000000 in
theorem walk (a0 : Int) (a1 : Int) (a2 : Int) (w0 : (Lit.int .i64 a0).wf = true) (w1 : (Lit.int .u64 a1).wf = true) (w2 : (Lit.int .u64 a2).wf = true) (w : World) :
    Calls Try.prog 6 #[.int .i64 a0, .int .u64 a1, .int .u64 a2] w fun e w' => e = .returned (.bool true) ∧ Grown w w' := by
  obtain ⟨l0, u0⟩ := i64_wf w0
  obtain ⟨l1, u1⟩ := u64_wf w1
  obtain ⟨l2, u2⟩ := u64_wf w2
  have cl := lives_gives
  have cw := width_gives a0 l0 u0
  obtain ⟨g1, g2⟩ := wid_bd a0
  generalize wid a0 = v at *
  clear w0 w1 w2 l0 u0
  have U := fun z => mod_u64 z g1 g2
  have hm := msk_in g1 g2
  have hq := pw_pos v.toNat
  have hx0 := Int.emod_nonneg a1 (show pw v.toNat ≠ 0 by omega)
  have hx1 := Int.emod_lt_of_pos a1 hq
  have hy0 := Int.emod_nonneg a2 (show pw v.toNat ≠ 0 by omega)
  have hy1 := Int.emod_lt_of_pos a2 hq
  have hh := pw_half (n := v.toNat) (by omega)
  have cm := Gives.of_same (Mask_any v)
  have hA := and_msk v a1 g1 g2 l1 (by omega)
  have hB := and_msk v a2 g1 g2 l2 (by omega)
  have fin : ∀ n, Grown w (w.drewN n) := fun n => grown_drewN w n
  by_cases hz : a2 % pw v.toNat = 0
  · have c1 := (Apply_4 v 0 a1 a2 g1 g2 l1 u1 l2 u2 (by decide)).as (aplT_dv v 4 a1 a2 2 0 (by simp [plE, hz]) (by omega) (by omega))
    have c2 := (Apply_6 v 0 a1 a2 g1 g2 l1 u1 l2 u2 (by decide)).as (aplT_dv v 6 a1 a2 2 0 (by simp [plE, hz]) (by omega) (by omega))
    rw [hz] at hB
    clear U hm hq hx0 hx1 hy0 hy1 hh hz g1 g2 l1 u1 l2 u2
    generalize msk v = m at *
    generalize a1 % pw v.toNat = X at *
    go_enter Try.func6, Try.ntmps6
    go_wp2_with (first
      | ((with_reducible refine (cl.go _).mono ?_); rintro e w' ⟨rfl, n0, rfl⟩)
      | ((with_reducible refine (cw.go _).mono ?_); rintro e w' ⟨rfl, n0, rfl⟩)
      | ((with_reducible refine (cm.go _).mono ?_); rintro e w' ⟨rfl, n0, rfl⟩)
      | ((with_reducible refine (c1.go _).mono ?_); rintro e w' ⟨rfl, n0, rfl⟩)
      | ((with_reducible refine (c2.go _).mono ?_); rintro e w' ⟨rfl, n0, rfl⟩))
    go_ret
    exact ⟨rfl, fin _⟩
  · have c1 := (Apply_4 v 0 a1 a2 g1 g2 l1 u1 l2 u2 (by decide)).as (aplT_dv v 4 a1 a2 0 (a1 % pw v.toNat / (a2 % pw v.toNat)) (by simp [plE, hz]) (fun _ => rfl) (by omega))
    have c2 := (Apply_6 v 0 a1 a2 g1 g2 l1 u1 l2 u2 (by decide)).as (aplT_dv v 6 a1 a2 0 (a1 % pw v.toNat % (a2 % pw v.toNat)) (by simp [plE, hz]) (fun _ => rfl) (by omega))
    have q0 : 0 ≤ a1 % pw v.toNat / (a2 % pw v.toNat) := Int.ediv_nonneg hx0 hy0
    have q1 : a1 % pw v.toNat / (a2 % pw v.toNat) ≤ 18446744073709551615 := by have := Int.ediv_le_self (a2 % pw v.toNat) hx0; have := (U a1).2; omega
    have r0 := Int.emod_nonneg (a1 % pw v.toNat) hz
    have r1 := Int.emod_lt_of_pos (a1 % pw v.toNat) (show 0 < a2 % pw v.toNat by omega)
    have hqr := Int.emod_add_mul_ediv (a1 % pw v.toNat) (a2 % pw v.toNat)
    have hp0 : 0 ≤ a2 % pw v.toNat * (a1 % pw v.toNat / (a2 % pw v.toNat)) := Int.mul_nonneg hy0 q0
    have c3 := (of_3 v (a1 % pw v.toNat / (a2 % pw v.toNat)) a2 g1 g2 q0 q1 l2 u2).as (u := .int .u64 (a2 % pw v.toNat * (a1 % pw v.toNat / (a2 % pw v.toNat)))) (one_eq (by
      rw [← Int.mul_emod_emod', Int.mul_comm, Int.emod_eq_of_lt hp0 (by omega)]))
    have c4 := (of_1 v (a2 % pw v.toNat * (a1 % pw v.toNat / (a2 % pw v.toNat))) (a1 % pw v.toNat % (a2 % pw v.toNat)) g1 g2 hp0 (by have := (U a1).2; omega) r0 (by have := (U a2).2; omega)).as (u := .int .u64 (a1 % pw v.toNat)) (one_eq (by
      rw [Int.add_comm, hqr, Int.emod_emod]))
    have es := sgn_in a1 g1 g2
    have et := sgn_in a2 g1 g2
    by_cases ho : a1 % pw v.toNat = pw (v.toNat - 1) ∧ a2 % pw v.toNat = pw v.toNat - 1
    · have c5 := (Apply_5 v 0 a1 a2 g1 g2 l1 u1 l2 u2 (by decide)).as (aplT_dv v 5 a1 a2 2 0 (by simp [plE, ho]) (by omega) (by omega))
      have c6 := (Apply_7 v 0 a1 a2 g1 g2 l1 u1 l2 u2 (by decide)).as (aplT_dv v 7 a1 a2 2 0 (by simp [plE, ho]) (by omega) (by omega))
      have e1 : a2 % pw v.toNat = msk v := by rw [hm]; exact ho.2
      have e2 : a1 % pw v.toNat = msk v / 2 + 1 := by rw [hm]; omega
      have m0 : 0 ≤ msk v := by omega
      have m1 : msk v ≤ 18446744073709551615 := by have := (U a2).2; omega
      rw [e1] at hB c1 c2 c3 c4 r1 hz
      have hz' : (msk v == 0) = false := by simpa using hz
      generalize a1 % pw v.toNat / msk v = Q at *
      generalize a1 % pw v.toNat % msk v = R at *
      rw [e2] at hA c4
      generalize msk v * Q = S at *
      clear U hm hq hx0 hx1 hy0 hy1 hh g1 g2 l1 u1 l2 u2 es et ho e1 e2 hqr hz q0 q1 r0
      generalize msk v = m at *
      go_enter Try.func6, Try.ntmps6
      go_wp2_with (first
        | ((with_reducible refine (cl.go _).mono ?_); rintro e w' ⟨rfl, n0, rfl⟩)
        | ((with_reducible refine (cw.go _).mono ?_); rintro e w' ⟨rfl, n0, rfl⟩)
        | ((with_reducible refine (cm.go _).mono ?_); rintro e w' ⟨rfl, n0, rfl⟩)
        | ((with_reducible refine (c1.go _).mono ?_); rintro e w' ⟨rfl, n0, rfl⟩)
        | ((with_reducible refine (c2.go _).mono ?_); rintro e w' ⟨rfl, n0, rfl⟩)
        | ((with_reducible refine (c3.go _).mono ?_); rintro e w' ⟨rfl, n0, rfl⟩)
        | ((with_reducible refine (c4.go _).mono ?_); rintro e w' ⟨rfl, n0, rfl⟩)
        | ((with_reducible refine (c5.go _).mono ?_); rintro e w' ⟨rfl, n0, rfl⟩)
        | ((with_reducible refine (c6.go _).mono ?_); rintro e w' ⟨rfl, n0, rfl⟩))
      go_ret
      exact ⟨rfl, fin _⟩
    · have hE : ∀ op : Int, op = 5 ∨ op = 7 → plE v.toNat op (a1 % pw v.toNat) (a2 % pw v.toNat) = 0 := by
        intro op h
        rw [plE, if_neg (by omega), if_pos h, if_neg (by rintro (h | h); exact hz h; exact ho h)]
      have c5 := (Apply_5 v 0 a1 a2 g1 g2 l1 u1 l2 u2 (by decide)).as (aplT_dv v 5 a1 a2 0 ((sgn v a1).tdiv (sgn v a2) % pw v.toNat) (hE 5 (by decide)) (fun _ => by rw [es, et]; rfl) (by omega))
      have c6 := (Apply_7 v 0 a1 a2 g1 g2 l1 u1 l2 u2 (by decide)).as (aplT_dv v 7 a1 a2 0 ((sgn v a1).tmod (sgn v a2) % pw v.toNat) (hE 7 (by decide)) (fun _ => by rw [es, et]; rfl) (by omega))
      have ht0 : sgn v a2 ≠ 0 := by rw [et]; exact sg_nz (by omega) hy0 hy1 hz
      have hb2 := sg_bd (n := v.toNat) (by omega) hy0 hy1
      rw [← et] at hb2
      have htb := tmod_bd (s := sgn v a1) ht0
      have hmg : mag (sgn v a2) ≤ pw (v.toNat - 1) := by unfold mag; split <;> omega
      have em2 : sgn v a2 % pw v.toNat = a2 % pw v.toNat := by rw [et, sg_mod, Int.emod_emod]
      have em1 : sgn v a1 % pw v.toNat = a1 % pw v.toNat := by rw [es, sg_mod, Int.emod_emod]
      have c7 := (of_3 v ((sgn v a1).tdiv (sgn v a2) % pw v.toNat) a2 g1 g2 (U _).1 (U _).2 l2 u2).as (u := .int .u64 (sgn v a2 * (sgn v a1).tdiv (sgn v a2) % pw v.toNat)) (one_eq (by
        rw [Int.mul_emod, Int.emod_emod, ← em2, ← Int.mul_emod, Int.mul_comm]))
      have c8 := (of_1 v (sgn v a2 * (sgn v a1).tdiv (sgn v a2) % pw v.toNat) ((sgn v a1).tmod (sgn v a2) % pw v.toNat) g1 g2 (U _).1 (U _).2 (U _).1 (U _).2).as (u := .int .u64 (a1 % pw v.toNat)) (one_eq (by
        rw [← Int.add_emod, Int.mul_tdiv_add_tmod, em1]))
      have c9 := (Gives.of_same (Signed_any v ((sgn v a1).tmod (sgn v a2) % pw v.toNat))).as (u := .int .i64 ((sgn v a1).tmod (sgn v a2))) (one_eq (by
        rw [sgn_in _ g1 g2, Int.emod_emod]
        exact sg_uniq (by omega) ⟨0, by omega⟩ (by omega) (by omega)))
      have c10 := Gives.of_same (Signed_any v a1)
      have hsg := tmod_sign (sgn v a1) (sgn v a2)
      have y0 : 0 < a2 % pw v.toNat := by omega
      generalize (sgn v a1).tdiv (sgn v a2) % pw v.toNat = D at *
      generalize sgn v a2 * (sgn v a1).tdiv (sgn v a2) % pw v.toNat = F at *
      generalize (sgn v a1).tmod (sgn v a2) % pw v.toNat = G at *
      generalize (sgn v a1).tmod (sgn v a2) = T at *
      generalize a1 % pw v.toNat / (a2 % pw v.toNat) = Q at *
      generalize a1 % pw v.toNat % (a2 % pw v.toNat) = R at *
      generalize a2 % pw v.toNat * Q = S at *
      clear U hm hq hx0 hx1 hy1 hh g1 g2 l1 u1 l2 u2 es et ho hE ht0 hb2 htb hmg em1 em2 hqr
      generalize a1 % pw v.toNat = X at *
      generalize a2 % pw v.toNat = Y at *
      generalize sgn v a1 = s at *
      generalize msk v = m at *
      clear q0 q1 r0 hp0
      have hc : T = 0 ∨ (¬ T = 0 ∧ T < 0 ∧ s < 0) ∨ (¬ T = 0 ∧ ¬ T < 0 ∧ ¬ s < 0) := by
        have hs2 := hsg
        simp only [Bool.or_eq_true, beq_iff_eq, decide_eq_decide] at hs2
        omega
      have HS := Lib.hid hsg
      clear hsg
      rcases hc with rfl | ⟨k1, k2, k3⟩ | ⟨k1, k2, k3⟩
      all_goals
        go_enter Try.func6, Try.ntmps6
        go_wp2_with (first
          | ((with_reducible refine (cl.go _).mono ?_); rintro e w' ⟨rfl, n0, rfl⟩)
          | ((with_reducible refine (cw.go _).mono ?_); rintro e w' ⟨rfl, n0, rfl⟩)
          | ((with_reducible refine (cm.go _).mono ?_); rintro e w' ⟨rfl, n0, rfl⟩)
          | ((with_reducible refine (c1.go _).mono ?_); rintro e w' ⟨rfl, n0, rfl⟩)
          | ((with_reducible refine (c2.go _).mono ?_); rintro e w' ⟨rfl, n0, rfl⟩)
          | ((with_reducible refine (c3.go _).mono ?_); rintro e w' ⟨rfl, n0, rfl⟩)
          | ((with_reducible refine (c4.go _).mono ?_); rintro e w' ⟨rfl, n0, rfl⟩)
          | ((with_reducible refine (c5.go _).mono ?_); rintro e w' ⟨rfl, n0, rfl⟩)
          | ((with_reducible refine (c6.go _).mono ?_); rintro e w' ⟨rfl, n0, rfl⟩)
          | ((with_reducible refine (c7.go _).mono ?_); rintro e w' ⟨rfl, n0, rfl⟩)
          | ((with_reducible refine (c8.go _).mono ?_); rintro e w' ⟨rfl, n0, rfl⟩)
          | ((with_reducible refine (c9.go _).mono ?_); rintro e w' ⟨rfl, n0, rfl⟩)
          | ((with_reducible refine (c10.go _).mono ?_); rintro e w' ⟨rfl, n0, rfl⟩))
        go_ret
        first | exact ⟨rfl, fin _⟩ | exact ⟨ret_bool HS.out, fin _⟩

/-! ### THE ROW's STEP: WRITTEN OUT: LEAVE IT -/
set_option maxRecDepth 100000 in
theorem lifted (os : Os) (started : os.Started) (H : Type) (enc : TypeId × Value → H) :
    ReturnsInHanded {} Try.checked os 6 .any (Rows.bitsDivideSpec.pre6 enc Try.prog Try.f6 Rows.bitsDivideRow.domain false) (Rows.bitsDivideSpec.post enc Try.prog Try.f6 false true false false) := by
  refine returnsInHanded_of_change (C := Try.checked) own started (by kernel_rfl) Try.func6
    (ChangeSpec.witness6 (enc := enc) (C := Try.checked) false ⟨#[], #[.int .i64 0, .int .u64 0, .int .u64 0], []⟩ 8 (by kernel_rfl) (by kernel_rfl) (by kernel_rfl) (by kernel_rfl)) ?_
  intro W base args ds gs before hval0 hW hcnd _
  have hval : ∀ (j : Nat) t v, Try.f6.params[j]? = some t → args[j]? = some v → Value.okWide Try.prog W .any base t v := hval0
  have hW' := hW
  obtain ⟨p, q, hA0, hV, rfl, hfz, hnd⟩ := hW
  have hA : DataW.TrodAll enc Try.prog W 0 (fun _ => true) true Try.f6.params.toList args.toList ds p := hA0
  rw [Try.params6] at hA hval
  obtain ⟨v0, vs0, d0, ds0, p0, q0, hargs, rfl, rfl, h0, r0⟩ := trodAll_cons hA
  obtain ⟨v1, vs1, d1, ds1, p1, q1, rfl, rfl, rfl, h1, r1⟩ := trodAll_cons r0
  obtain ⟨v2, vs2, d2, ds2, p2, q2, rfl, rfl, rfl, h2, r2⟩ := trodAll_cons r1
  obtain ⟨rfl, rfl, rfl⟩ := trodAll_nil r2
  obtain rfl : args = #[v0, v1, v2] := by cases args; simp_all
  obtain ⟨rfl, rfl⟩ := trodVars_none hV
  obtain ⟨a0, rfl, rfl, rfl, w0⟩ := open_int Try.underlying3 (hval 0 3 v0 rfl rfl) h0
  obtain ⟨a1, rfl, rfl, rfl, w1⟩ := open_int Try.underlying22 (hval 1 22 v1 rfl rfl) h1
  obtain ⟨a2, rfl, rfl, rfl, w2⟩ := open_int Try.underlying22 (hval 2 22 v2 rfl rfl) h2
  clear hA0 hval0
  simp only [List.append_nil] at hW'
  refine (walk a0 a1 a2 w0 w1 w2 W).mono fun e W' ⟨he, hg⟩ => ?_
  subst he
  exact ⟨_, rfl, post_of_same (pa := []) (pv := []) hW' (fun _ _ _ => (trodAll_cons_mk (shut_bool Try.underlying4 _) trodAll_mk0)) (fun sp _ => (trodAll_cons_mk (shut_int Try.underlying3 w0) (trodAll_cons_mk (shut_int Try.underlying22 w1) (trodAll_cons_mk (shut_int Try.underlying22 w2) trodAll_mk0)))) (fun _ _ => rfl) rfl
    (hg.frame _) hg.2.1 (ok_one (by kernel_rfl) rfl (okWide_bool_mk Try.underlying4 _))⟩

theorem over : Rows.bitsDivideRow.holds Try.pinned (OpenSpec.ofChange Rows.bitsDivideSpec) :=
  OpenClaim.holds_of_wide 6 Try.f6 rfl rfl rfl rfl rfl rfl rfl ⟨rfl, rfl, rfl, rfl, rfl⟩ rfl rfl rfl rfl rfl (by kernel_rfl) Try.func6 (by kernel_rfl)
    (of_decide_eq_true (by kernel_rfl)) (by unfold Func.isWrapper; first | (rw [if_pos (by decide +kernel)]; kernel_rfl) | (rw [if_neg (by decide +kernel)]; exact ⟨rfl, rfl⟩))
    (fun os started H enc _ => lifted os started H enc)

/-- ████ THE STATEMENT ████ -/
theorem proved : Rows.BitsDivideSaid :=
  over
#print axioms proved
end Go.Proofs.Ythhdgfhndijmeaa.bitsDivide
