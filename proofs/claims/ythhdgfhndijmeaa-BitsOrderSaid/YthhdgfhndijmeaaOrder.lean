/- For every width and any two numbers: of below, equal and above just one holds, with a sign and without: lathelaw01.BitsOrder returns true, and leaves its arguments as they were. No conditions. -/
import Derived.Test.YthhdgfhndijmeaaRows
import Derived.WalkKit
import Derived.ProofKit
import Derived.OpenShut
import Derived.Test.YthhdgfhndijmeaaBitsH
import Derived.LoopN
namespace Go.Proofs.Ythhdgfhndijmeaa.bitsOrder
open Go.ChangeShapes Go.WideShapes Go.ChangeAt Go.RowKit
set_option linter.unusedVariables false      -- a walk need not use every 'w<i>' (that an integer argument fits its kind)

theorem own : ownKnob Try.prog.godebug = none := by kernel_rfl

theorem parts (v a b : Int) (h1 : 1 ≤ v) (h2 : v ≤ 64) :
    ∃ E L G S T : Bool, (a % pw v.toNat == b % pw v.toNat) = E ∧ decide (a % pw v.toNat < b % pw v.toNat) = L ∧ decide (b % pw v.toNat < a % pw v.toNat) = G ∧
      decide (sgn v a < sgn v b) = S ∧ decide (sgn v b < sgn v a) = T ∧ (sgn v a == sgn v b) = E ∧
      ((E = true ∧ L = false ∧ G = false ∧ S = false ∧ T = false) ∨ (E = false ∧ L = true ∧ G = false ∧ S = true ∧ T = false) ∨ (E = false ∧ L = true ∧ G = false ∧ S = false ∧ T = true)
        ∨ (E = false ∧ L = false ∧ G = true ∧ S = true ∧ T = false) ∨ (E = false ∧ L = false ∧ G = true ∧ S = false ∧ T = true)) := by
  refine ⟨_, _, _, _, _, rfl, rfl, rfl, rfl, rfl, ?_, ?_⟩
  all_goals
    rw [sgn_in a h1 h2, sgn_in b h1 h2]
    have hq := pw_pos v.toNat
    have hi := sg_inj (n := v.toNat) (by omega) (Int.emod_nonneg a (show pw v.toNat ≠ 0 by omega)) (Int.emod_lt_of_pos a hq) (Int.emod_nonneg b (show pw v.toNat ≠ 0 by omega)) (Int.emod_lt_of_pos b hq)
    generalize a % pw v.toNat = x at *
    generalize b % pw v.toNat = y at *
    generalize sg v.toNat x = s at *
    generalize sg v.toNat y = t at *
  · rw [Bool.eq_iff_iff]; simpa using hi
  · simp only [beq_iff_eq, beq_eq_false_iff_ne, ne_eq, decide_eq_true_eq, decide_eq_false_iff_not]
    omega

/-! ### STEP 1: THE WALK: the Go text returns true. 'Grown w w'': the world has at most new blocks (Derived/RowKit3.lean). Part the cases AHEAD of 'go_enter' where a test parts the walk; take each callee by a contract of your own. -/
set_option maxHeartbeats 1000000 in
theorem walk (a0 : Int) (a1 : Int) (a2 : Int) (w0 : (Lit.int .i64 a0).wf = true) (w1 : (Lit.int .u64 a1).wf = true) (w2 : (Lit.int .u64 a2).wf = true) (w : World) :
    Calls Try.prog 8 #[.int .i64 a0, .int .u64 a1, .int .u64 a2] w fun e w' => e = .returned (.bool true) ∧ Grown w w' := by
  obtain ⟨l0, u0⟩ := i64_wf w0
  obtain ⟨l1, u1⟩ := u64_wf w1
  obtain ⟨l2, u2⟩ := u64_wf w2
  have cl := lives_gives
  have cw := width_gives a0 l0 u0
  obtain ⟨g1, g2⟩ := wid_bd a0
  generalize wid a0 = v at *
  have s1 := Gives.of_same (Signed_any v a1)
  have s2 := Gives.of_same (Signed_any v a2)
  obtain ⟨E, L, G, S, T, hE, hL, hG, hS, hT, hE2, hc⟩ := parts v a1 a2 g1 g2
  have c1 := (of_cmp 14 v a1 a2 (by decide) g1 g2 l1 u1 l2 u2).as (u := .int .u64 (if E then 1 else 0)) (one_eq (by rw [← hE]; rfl))
  have c2 := (of_cmp 15 v a1 a2 (by decide) g1 g2 l1 u1 l2 u2).as (u := .int .u64 (if !E then 1 else 0)) (one_eq (by rw [← hE]; rfl))
  have c3 := (of_cmp 16 v a1 a2 (by decide) g1 g2 l1 u1 l2 u2).as (u := .int .u64 (if L then 1 else 0)) (one_eq (by rw [← hL]; rfl))
  have c4 := (of_cmp 16 v a2 a1 (by decide) g1 g2 l2 u2 l1 u1).as (u := .int .u64 (if G then 1 else 0)) (one_eq (by rw [← hG]; rfl))
  have c5 := (of_cmp 17 v a1 a2 (by decide) g1 g2 l1 u1 l2 u2).as (u := .int .u64 (if !G then 1 else 0)) (one_eq (by rw [← hG]; show (if decide _ then _ else _) = _; simp))
  have c6 := (of_cmp 18 v a1 a2 (by decide) g1 g2 l1 u1 l2 u2).as (u := .int .u64 (if S then 1 else 0)) (one_eq (by rw [← hS]; rfl))
  have c7 := (of_cmp 18 v a2 a1 (by decide) g1 g2 l2 u2 l1 u1).as (u := .int .u64 (if T then 1 else 0)) (one_eq (by rw [← hT]; rfl))
  have c8 := (of_cmp 19 v a1 a2 (by decide) g1 g2 l1 u1 l2 u2).as (u := .int .u64 (if !T then 1 else 0)) (one_eq (by rw [← hT]; show (if decide _ then _ else _) = _; simp))
  clear hE hL hG hT
  generalize sgn v a1 = s at *
  generalize sgn v a2 = t at *
  clear w0 w1 w2 l0 u0 l1 u1 l2 u2 g1 g2
  rcases hc with ⟨rfl, rfl, rfl, rfl, rfl⟩ | ⟨rfl, rfl, rfl, rfl, rfl⟩ | ⟨rfl, rfl, rfl, rfl, rfl⟩ | ⟨rfl, rfl, rfl, rfl, rfl⟩ | ⟨rfl, rfl, rfl, rfl, rfl⟩
  all_goals
    simp only [if_true, if_false, Bool.not_true, Bool.not_false, Bool.false_eq_true] at c1 c2 c3 c4 c5 c6 c7 c8
    go_enter Try.func8, Try.ntmps8
    go_wp2_with (first
      | ((with_reducible refine (cl.go _).mono ?_); rintro e wa ⟨rfl, hwa⟩; have HA := Lib.hid hwa; clear hwa)
      | ((with_reducible refine (cw.go _).mono ?_); rintro e wb ⟨rfl, hwb⟩; have HB := Lib.hid hwb; clear hwb))
    refine wp_loop_rounds 3 ?_
    rw [rounds_succ]
    go_wp2_with (first
      | ((with_reducible refine (c1.go _).mono ?_); rintro e w' ⟨rfl, n0, rfl⟩)
      | ((with_reducible refine (c3.go _).mono ?_); rintro e w' ⟨rfl, n0, rfl⟩)
      | ((with_reducible refine (c4.go _).mono ?_); rintro e w' ⟨rfl, n0, rfl⟩)
      | ((with_reducible refine (c5.go _).mono ?_); rintro e w' ⟨rfl, n0, rfl⟩))
    rw [rounds_succ]
    go_wp2_with (first
      | ((with_reducible refine (c1.go _).mono ?_); rintro e w' ⟨rfl, n0, rfl⟩)
      | ((with_reducible refine (c6.go _).mono ?_); rintro e w' ⟨rfl, n0, rfl⟩)
      | ((with_reducible refine (c7.go _).mono ?_); rintro e w' ⟨rfl, n0, rfl⟩)
      | ((with_reducible refine (c8.go _).mono ?_); rintro e w' ⟨rfl, n0, rfl⟩))
    rw [rounds_succ]
    go_wp2_with (first
      | ((with_reducible refine (s1.go _).mono ?_); rintro e w' ⟨rfl, n0, rfl⟩)
      | ((with_reducible refine (s2.go _).mono ?_); rintro e w' ⟨rfl, n0, rfl⟩)
      | ((with_reducible refine (c1.go _).mono ?_); rintro e w' ⟨rfl, n0, rfl⟩)
      | ((with_reducible refine (c2.go _).mono ?_); rintro e w' ⟨rfl, n0, rfl⟩)
      | ((with_reducible refine (c6.go _).mono ?_); rintro e w' ⟨rfl, n0, rfl⟩))
    go_ret
    obtain ⟨na, rfl⟩ := HA.out
    obtain ⟨nb, rfl⟩ := HB.out
    exact ⟨rfl, grown_drawn (Grown.alloc (grown_drawn (grown_drawn (Grown.refl _) _) _) _ _) _⟩

/-! ### THE ROW's STEP: WRITTEN OUT: LEAVE IT -/
set_option maxRecDepth 100000 in
theorem lifted (os : Os) (started : os.Started) (H : Type) (enc : TypeId × Value → H) :
    ReturnsInHanded {} Try.checked os 8 .any (Rows.bitsOrderSpec.pre6 enc Try.prog Try.f8 Rows.bitsOrderRow.domain false) (Rows.bitsOrderSpec.post enc Try.prog Try.f8 false true false false) := by
  refine returnsInHanded_of_change (C := Try.checked) own started (by kernel_rfl) Try.func8
    (ChangeSpec.witness6 (enc := enc) (C := Try.checked) false ⟨#[], #[.int .i64 0, .int .u64 0, .int .u64 0], []⟩ 8 (by kernel_rfl) (by kernel_rfl) (by kernel_rfl) (by kernel_rfl)) ?_
  intro W base args ds gs before hval0 hW hcnd _
  have hval : ∀ (j : Nat) t v, Try.f8.params[j]? = some t → args[j]? = some v → Value.okWide Try.prog W .any base t v := hval0
  have hW' := hW
  obtain ⟨p, q, hA0, hV, rfl, hfz, hnd⟩ := hW
  have hA : DataW.TrodAll enc Try.prog W 0 (fun _ => true) true Try.f8.params.toList args.toList ds p := hA0
  rw [Try.params8] at hA hval
  obtain ⟨v0, vs0, d0, ds0, p0, q0, hargs, rfl, rfl, h0, r0⟩ := trodAll_cons hA
  obtain ⟨v1, vs1, d1, ds1, p1, q1, rfl, rfl, rfl, h1, r1⟩ := trodAll_cons r0
  obtain ⟨v2, vs2, d2, ds2, p2, q2, rfl, rfl, rfl, h2, r2⟩ := trodAll_cons r1
  obtain ⟨rfl, rfl, rfl⟩ := trodAll_nil r2
  obtain rfl : args = #[v0, v1, v2] := by cases args; simp_all
  obtain ⟨rfl, rfl⟩ := trodVars_none hV
  obtain ⟨a0, rfl, rfl, rfl, w0⟩ := open_int Try.underlying3 (hval 0 3 v0 rfl rfl) h0
  obtain ⟨a1, rfl, rfl, rfl, w1⟩ := open_int Try.underlying22 (hval 1 22 v1 rfl rfl) h1
  obtain ⟨a2, rfl, rfl, rfl, w2⟩ := open_int Try.underlying22 (hval 2 22 v2 rfl rfl) h2
  clear hA0 hval0
  simp only [List.append_nil] at hW'
  refine (walk a0 a1 a2 w0 w1 w2 W).mono fun e W' ⟨he, hg⟩ => ?_
  subst he
  exact ⟨_, rfl, post_of_same (pa := []) (pv := []) hW' (fun _ _ _ => (trodAll_cons_mk (shut_bool Try.underlying4 _) trodAll_mk0)) (fun sp _ => (trodAll_cons_mk (shut_int Try.underlying3 w0) (trodAll_cons_mk (shut_int Try.underlying22 w1) (trodAll_cons_mk (shut_int Try.underlying22 w2) trodAll_mk0)))) (fun _ _ => rfl) rfl
    (hg.frame _) hg.2.1 (ok_one (by kernel_rfl) rfl (okWide_bool_mk Try.underlying4 _))⟩

theorem over : Rows.bitsOrderRow.holds Try.pinned (OpenSpec.ofChange Rows.bitsOrderSpec) :=
  OpenClaim.holds_of_wide 8 Try.f8 rfl rfl rfl rfl rfl rfl rfl ⟨rfl, rfl, rfl, rfl, rfl⟩ rfl rfl rfl rfl rfl (by kernel_rfl) Try.func8 (by kernel_rfl)
    (of_decide_eq_true (by kernel_rfl)) (by unfold Func.isWrapper; first | (rw [if_pos (by decide +kernel)]; kernel_rfl) | (rw [if_neg (by decide +kernel)]; exact ⟨rfl, rfl⟩))
    (fun os started H enc _ => lifted os started H enc)

/-- ████ THE STATEMENT ████ -/
theorem proved : Rows.BitsOrderSaid :=
  over
#print axioms proved
end Go.Proofs.Ythhdgfhndijmeaa.bitsOrder
