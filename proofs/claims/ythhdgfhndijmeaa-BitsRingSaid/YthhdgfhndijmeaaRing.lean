/- For every width, and any three numbers: sums and products don't hang on the order, a difference undoes a sum, a product goes through a sum: lathelaw01.BitsRing returns true, and leaves its arguments as they were. No conditions. -/
import Derived.Test.YthhdgfhndijmeaaRows
import Derived.WalkKit
import Derived.ProofKit
import Derived.OpenShut
import Derived.Test.YthhdgfhndijmeaaBitsG
namespace Go.Proofs.Ythhdgfhndijmeaa.bitsRing
open Go.ChangeShapes Go.WideShapes Go.ChangeAt Go.RowKit
set_option linter.unusedVariables false      -- a walk need not use every 'w<i>' (that an integer argument fits its kind)

theorem own : ownKnob Try.prog.godebug = none := by kernel_rfl

/-! ### STEP 1: THE WALK: the Go text returns true. 'Grown w w'': the world has at most new blocks (Derived/RowKit3.lean). Part the cases AHEAD of 'go_enter' where a test parts the walk; take each callee by a contract of your own. -/
theorem walk (a0 : Int) (a1 : Int) (a2 : Int) (a3 : Int) (w0 : (Lit.int .i64 a0).wf = true) (w1 : (Lit.int .u64 a1).wf = true) (w2 : (Lit.int .u64 a2).wf = true) (w3 : (Lit.int .u64 a3).wf = true) (w : World) :
    Calls Try.prog 5 #[.int .i64 a0, .int .u64 a1, .int .u64 a2, .int .u64 a3] w fun e w' => e = .returned (.bool true) ∧ Grown w w' := by
  obtain ⟨l0, u0⟩ := i64_wf w0
  obtain ⟨l1, u1⟩ := u64_wf w1
  obtain ⟨l2, u2⟩ := u64_wf w2
  obtain ⟨l3, u3⟩ := u64_wf w3
  have cl := lives_gives
  have cw := width_gives a0 l0 u0
  obtain ⟨g1, g2⟩ := wid_bd a0
  generalize wid a0 = v at *
  have cm := Gives.of_same (Mask_any v)
  have hA := and_msk v a1 g1 g2 l1 (by omega)
  have U := fun z => mod_u64 z g1 g2
  have c1 := of_1 v a1 a2 g1 g2 l1 u1 l2 u2
  have c2 := (of_1 v a2 a1 g1 g2 l2 u2 l1 u1).as (one_eq (by rw [Int.add_comm]))
  have c3 := of_3 v a1 a2 g1 g2 l1 u1 l2 u2
  have c4 := (of_3 v a2 a1 g1 g2 l2 u2 l1 u1).as (one_eq (by rw [Int.mul_comm]))
  have c5 := (of_2 v ((a1 + a2) % pw v.toNat) a2 g1 g2 (U _).1 (U _).2 l2 u2).as (u := .int .u64 (a1 % pw v.toNat)) (one_eq (by rw [Int.emod_sub_emod]; congr 1; omega))
  have c6 := of_1 v a2 a3 g1 g2 l2 u2 l3 u3
  have c7 := (of_3 v a1 ((a2 + a3) % pw v.toNat) g1 g2 l1 u1 (U _).1 (U _).2).as (u := .int .u64 ((a1 * a2 + a1 * a3) % pw v.toNat)) (one_eq (by rw [Int.mul_emod_emod', Int.mul_add]))
  have c8 := of_3 v a1 a3 g1 g2 l1 u1 l3 u3
  have c9 := (of_1 v (a1 * a2 % pw v.toNat) (a1 * a3 % pw v.toNat) g1 g2 (U _).1 (U _).2 (U _).1 (U _).2).as (u := .int .u64 ((a1 * a2 + a1 * a3) % pw v.toNat)) (one_eq (by rw [← Int.add_emod]))
  have c10 := (of_1 v ((a1 + a2) % pw v.toNat) a3 g1 g2 (U _).1 (U _).2 l3 u3).as (u := .int .u64 ((a1 + a2 + a3) % pw v.toNat)) (one_eq (by rw [Int.emod_add_emod]))
  have c11 := (of_1 v a1 ((a2 + a3) % pw v.toNat) g1 g2 l1 u1 (U _).1 (U _).2).as (u := .int .u64 ((a1 + a2 + a3) % pw v.toNat)) (one_eq (by rw [Int.add_emod_emod, Int.add_assoc]))
  have c12 := of_2 v a1 a2 g1 g2 l1 u1 l2 u2
  have c13 := of_2 v 0 a2 g1 g2 (by decide) (by decide) l2 u2
  have c14 := (of_1 v a1 ((0 - a2) % pw v.toNat) g1 g2 l1 u1 (U _).1 (U _).2).as (u := .int .u64 ((a1 - a2) % pw v.toNat)) (one_eq (by rw [Int.add_emod_emod]; congr 1; omega))
  clear U
  generalize (a1 + a2) % pw v.toNat = S at *
  generalize a1 * a2 % pw v.toNat = P at *
  generalize (a2 + a3) % pw v.toNat = T at *
  generalize a1 * a3 % pw v.toNat = R at *
  generalize (a1 * a2 + a1 * a3) % pw v.toNat = Z at *
  generalize (a1 + a2 + a3) % pw v.toNat = X at *
  generalize (a1 - a2) % pw v.toNat = D at *
  generalize (0 - a2) % pw v.toNat = E at *
  generalize a1 % pw v.toNat = B at *
  generalize msk v = m at *
  clear w0 w1 w2 w3 l0 u0 l1 u1 l2 u2 l3 u3 g1 g2
  go_enter Try.func5, Try.ntmps5
  go_wp2_with (first
    | ((with_reducible refine (cl.go _).mono ?_); rintro e w' ⟨rfl, n0, rfl⟩)
    | ((with_reducible refine (cw.go _).mono ?_); rintro e w' ⟨rfl, n0, rfl⟩)
    | ((with_reducible refine (cm.go _).mono ?_); rintro e w' ⟨rfl, n0, rfl⟩)
    | ((with_reducible refine (c1.go _).mono ?_); rintro e w' ⟨rfl, n0, rfl⟩)
    | ((with_reducible refine (c2.go _).mono ?_); rintro e w' ⟨rfl, n0, rfl⟩)
    | ((with_reducible refine (c3.go _).mono ?_); rintro e w' ⟨rfl, n0, rfl⟩)
    | ((with_reducible refine (c4.go _).mono ?_); rintro e w' ⟨rfl, n0, rfl⟩)
    | ((with_reducible refine (c5.go _).mono ?_); rintro e w' ⟨rfl, n0, rfl⟩)
    | ((with_reducible refine (c6.go _).mono ?_); rintro e w' ⟨rfl, n0, rfl⟩)
    | ((with_reducible refine (c7.go _).mono ?_); rintro e w' ⟨rfl, n0, rfl⟩)
    | ((with_reducible refine (c8.go _).mono ?_); rintro e w' ⟨rfl, n0, rfl⟩)
    | ((with_reducible refine (c9.go _).mono ?_); rintro e w' ⟨rfl, n0, rfl⟩)
    | ((with_reducible refine (c10.go _).mono ?_); rintro e w' ⟨rfl, n0, rfl⟩)
    | ((with_reducible refine (c11.go _).mono ?_); rintro e w' ⟨rfl, n0, rfl⟩)
    | ((with_reducible refine (c12.go _).mono ?_); rintro e w' ⟨rfl, n0, rfl⟩)
    | ((with_reducible refine (c13.go _).mono ?_); rintro e w' ⟨rfl, n0, rfl⟩)
    | ((with_reducible refine (c14.go _).mono ?_); rintro e w' ⟨rfl, n0, rfl⟩))
  go_ret
  exact ⟨rfl, grown_drewN _ _⟩

/-! ### THE ROW's STEP: WRITTEN OUT: LEAVE IT -/
set_option maxRecDepth 100000 in
theorem lifted (os : Os) (started : os.Started) (H : Type) (enc : TypeId × Value → H) :
    ReturnsInHanded {} Try.checked os 5 .any (Rows.bitsRingSpec.pre6 enc Try.prog Try.f5 Rows.bitsRingRow.domain false) (Rows.bitsRingSpec.post enc Try.prog Try.f5 false true false false) := by
  refine returnsInHanded_of_change (C := Try.checked) own started (by kernel_rfl) Try.func5
    (ChangeSpec.witness6 (enc := enc) (C := Try.checked) false ⟨#[], #[.int .i64 0, .int .u64 0, .int .u64 0, .int .u64 0], []⟩ 8 (by kernel_rfl) (by kernel_rfl) (by kernel_rfl) (by kernel_rfl)) ?_
  intro W base args ds gs before hval0 hW hcnd _
  have hval : ∀ (j : Nat) t v, Try.f5.params[j]? = some t → args[j]? = some v → Value.okWide Try.prog W .any base t v := hval0
  have hW' := hW
  obtain ⟨p, q, hA0, hV, rfl, hfz, hnd⟩ := hW
  have hA : DataW.TrodAll enc Try.prog W 0 (fun _ => true) true Try.f5.params.toList args.toList ds p := hA0
  rw [Try.params5] at hA hval
  obtain ⟨v0, vs0, d0, ds0, p0, q0, hargs, rfl, rfl, h0, r0⟩ := trodAll_cons hA
  obtain ⟨v1, vs1, d1, ds1, p1, q1, rfl, rfl, rfl, h1, r1⟩ := trodAll_cons r0
  obtain ⟨v2, vs2, d2, ds2, p2, q2, rfl, rfl, rfl, h2, r2⟩ := trodAll_cons r1
  obtain ⟨v3, vs3, d3, ds3, p3, q3, rfl, rfl, rfl, h3, r3⟩ := trodAll_cons r2
  obtain ⟨rfl, rfl, rfl⟩ := trodAll_nil r3
  obtain rfl : args = #[v0, v1, v2, v3] := by cases args; simp_all
  obtain ⟨rfl, rfl⟩ := trodVars_none hV
  obtain ⟨a0, rfl, rfl, rfl, w0⟩ := open_int Try.underlying3 (hval 0 3 v0 rfl rfl) h0
  obtain ⟨a1, rfl, rfl, rfl, w1⟩ := open_int Try.underlying22 (hval 1 22 v1 rfl rfl) h1
  obtain ⟨a2, rfl, rfl, rfl, w2⟩ := open_int Try.underlying22 (hval 2 22 v2 rfl rfl) h2
  obtain ⟨a3, rfl, rfl, rfl, w3⟩ := open_int Try.underlying22 (hval 3 22 v3 rfl rfl) h3
  clear hA0 hval0
  simp only [List.append_nil] at hW'
  refine (walk a0 a1 a2 a3 w0 w1 w2 w3 W).mono fun e W' ⟨he, hg⟩ => ?_
  subst he
  exact ⟨_, rfl, post_of_same (pa := []) (pv := []) hW' (fun _ _ _ => (trodAll_cons_mk (shut_bool Try.underlying4 _) trodAll_mk0)) (fun sp _ => (trodAll_cons_mk (shut_int Try.underlying3 w0) (trodAll_cons_mk (shut_int Try.underlying22 w1) (trodAll_cons_mk (shut_int Try.underlying22 w2) (trodAll_cons_mk (shut_int Try.underlying22 w3) trodAll_mk0))))) (fun _ _ => rfl) rfl
    (hg.frame _) hg.2.1 (ok_one (by kernel_rfl) rfl (okWide_bool_mk Try.underlying4 _))⟩

theorem over : Rows.bitsRingRow.holds Try.pinned (OpenSpec.ofChange Rows.bitsRingSpec) :=
  OpenClaim.holds_of_wide 5 Try.f5 rfl rfl rfl rfl rfl rfl rfl ⟨rfl, rfl, rfl, rfl, rfl⟩ rfl rfl rfl rfl rfl (by kernel_rfl) Try.func5 (by kernel_rfl)
    (of_decide_eq_true (by kernel_rfl)) (by unfold Func.isWrapper; first | (rw [if_pos (by decide +kernel)]; kernel_rfl) | (rw [if_neg (by decide +kernel)]; exact ⟨rfl, rfl⟩))
    (fun os started H enc _ => lifted os started H enc)

/-- ████ THE STATEMENT ████ -/
theorem proved : Rows.BitsRingSaid :=
  over
#print axioms proved
end Go.Proofs.Ythhdgfhndijmeaa.bitsRing
