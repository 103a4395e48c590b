/- For every operation from Add to Ashr, every width and any two numbers: a flag changes no number, it only turns some into poison, and more flags turn more: lathelaw01.BitsFlags returns true, and leaves its arguments as they were. No conditions. -/
import Derived.Test.YthhdgfhndijmeaaRows
import Derived.WalkKit
import Derived.ProofKit
import Derived.OpenShut
import Derived.Test.YthhdgfhndijmeaaBitsK
namespace Go.Proofs.Ythhdgfhndijmeaa.bitsFlags
open Go.ChangeShapes Go.WideShapes Go.ChangeAt Go.RowKit
set_option linter.unusedVariables false      -- a walk need not use every 'w<i>' (that an integer argument fits its kind)

theorem own : ownKnob Try.prog.godebug = none := by kernel_rfl

/-! ### STEP 1: THE WALK: the Go text returns true. 'Grown w w'': the world has at most new blocks (Derived/RowKit3.lean). Part the cases AHEAD of 'go_enter' where a test parts the walk; take each callee by a contract of your own. -/
theorem walk (a0 : Int) (a1 : Int) (a2 : Int) (a3 : Int) (w0 : (Lit.int .i64 a0).wf = true) (w1 : (Lit.int .i64 a1).wf = true) (w2 : (Lit.int .u64 a2).wf = true) (w3 : (Lit.int .u64 a3).wf = true) (w : World) :
    Calls Try.prog 7 #[.int .i64 a0, .int .i64 a1, .int .u64 a2, .int .u64 a3] w fun e w' => e = .returned (.bool true) ∧ Grown w w' := by
  obtain ⟨l0, u0⟩ := i64_wf w0
  obtain ⟨l1, u1⟩ := i64_wf w1
  obtain ⟨l2, u2⟩ := u64_wf w2
  obtain ⟨l3, u3⟩ := u64_wf w3
  have cl := lives_gives
  have cw := width_gives a1 l1 u1
  obtain ⟨g1, g2⟩ := wid_bd a1
  generalize wid a1 = v at *
  obtain ⟨r, kr⟩ : ∃ r, IntKind.u64.wrap a0 % 13 = r := ⟨_, rfl⟩
  have r0 : 0 ≤ r := by omega
  have r1 : r ≤ 12 := by omega
  obtain ⟨o, ko⟩ : ∃ o, 1 + r = o := ⟨_, rfl⟩
  have ho : o = 1 ∨ o = 2 ∨ o = 3 ∨ o = 4 ∨ o = 5 ∨ o = 6 ∨ o = 7 ∨ o = 8 ∨ o = 9 ∨ o = 10 ∨ o = 11 ∨ o = 12 ∨ o = 13 := by omega
  rcases ho with rfl | rfl | rfl | rfl | rfl | rfl | rfl | rfl | rfl | rfl | rfl | rfl | rfl
  · exact flA a0 a1 a2 a3 1 r v w kr r0 r1 ko cl cw g1 g2 (by decide) (by unfold plE; repeat (first | omega | split)) (fun fl h => Apply_1 v fl a2 a3 g1 g2 l2 u2 l3 u3 h)
  · exact flA a0 a1 a2 a3 2 r v w kr r0 r1 ko cl cw g1 g2 (by decide) (by unfold plE; repeat (first | omega | split)) (fun fl h => Apply_2 v fl a2 a3 g1 g2 l2 u2 l3 u3 h)
  · exact flA a0 a1 a2 a3 3 r v w kr r0 r1 ko cl cw g1 g2 (by decide) (by unfold plE; repeat (first | omega | split)) (fun fl h => Apply_3 v fl a2 a3 g1 g2 l2 u2 l3 u3 h)
  · exact flB a0 a1 a2 a3 4 r v w kr r0 r1 ko cl cw g1 g2 (by decide) (by unfold plE; repeat (first | omega | split)) (fun fl h => Apply_4 v fl a2 a3 g1 g2 l2 u2 l3 u3 h)
  · exact flB a0 a1 a2 a3 5 r v w kr r0 r1 ko cl cw g1 g2 (by decide) (by unfold plE; repeat (first | omega | split)) (fun fl h => Apply_5 v fl a2 a3 g1 g2 l2 u2 l3 u3 h)
  · exact flD a0 a1 a2 a3 6 r v w kr r0 r1 ko cl cw g1 g2 (by decide) (fun fl h => Apply_6 v fl a2 a3 g1 g2 l2 u2 l3 u3 h)
  · exact flD a0 a1 a2 a3 7 r v w kr r0 r1 ko cl cw g1 g2 (by decide) (fun fl h => Apply_7 v fl a2 a3 g1 g2 l2 u2 l3 u3 h)
  · exact flD a0 a1 a2 a3 8 r v w kr r0 r1 ko cl cw g1 g2 (by decide) (fun fl h => Apply_8 v fl a2 a3 g1 g2 l2 u2 l3 u3 h)
  · exact flD a0 a1 a2 a3 9 r v w kr r0 r1 ko cl cw g1 g2 (by decide) (fun fl h => Apply_9 v fl a2 a3 g1 g2 l2 u2 l3 u3 h)
  · exact flD a0 a1 a2 a3 10 r v w kr r0 r1 ko cl cw g1 g2 (by decide) (fun fl h => Apply_10 v fl a2 a3 g1 g2 l2 u2 l3 u3 h)
  · exact flA a0 a1 a2 a3 11 r v w kr r0 r1 ko cl cw g1 g2 (by decide) (by unfold plE; repeat (first | omega | split)) (fun fl h => Apply_11 v fl a2 a3 g1 g2 l2 u2 l3 u3 h)
  · exact flB a0 a1 a2 a3 12 r v w kr r0 r1 ko cl cw g1 g2 (by decide) (by unfold plE; repeat (first | omega | split)) (fun fl h => Apply_12 v fl a2 a3 g1 g2 l2 u2 l3 u3 h)
  · exact flB a0 a1 a2 a3 13 r v w kr r0 r1 ko cl cw g1 g2 (by decide) (by unfold plE; repeat (first | omega | split)) (fun fl h => Apply_13 v fl a2 a3 g1 g2 l2 u2 l3 u3 h)

/-! ### THE ROW's STEP: WRITTEN OUT: LEAVE IT -/
set_option maxRecDepth 100000 in
theorem lifted (os : Os) (started : os.Started) (H : Type) (enc : TypeId × Value → H) :
    ReturnsInHanded {} Try.checked os 7 .any (Rows.bitsFlagsSpec.pre6 enc Try.prog Try.f7 Rows.bitsFlagsRow.domain false) (Rows.bitsFlagsSpec.post enc Try.prog Try.f7 false true false false) := by
  refine returnsInHanded_of_change (C := Try.checked) own started (by kernel_rfl) Try.func7
    (ChangeSpec.witness6 (enc := enc) (C := Try.checked) false ⟨#[], #[.int .i64 0, .int .i64 0, .int .u64 0, .int .u64 0], []⟩ 8 (by kernel_rfl) (by kernel_rfl) (by kernel_rfl) (by kernel_rfl)) ?_
  intro W base args ds gs before hval0 hW hcnd _
  have hval : ∀ (j : Nat) t v, Try.f7.params[j]? = some t → args[j]? = some v → Value.okWide Try.prog W .any base t v := hval0
  have hW' := hW
  obtain ⟨p, q, hA0, hV, rfl, hfz, hnd⟩ := hW
  have hA : DataW.TrodAll enc Try.prog W 0 (fun _ => true) true Try.f7.params.toList args.toList ds p := hA0
  rw [Try.params7] at hA hval
  obtain ⟨v0, vs0, d0, ds0, p0, q0, hargs, rfl, rfl, h0, r0⟩ := trodAll_cons hA
  obtain ⟨v1, vs1, d1, ds1, p1, q1, rfl, rfl, rfl, h1, r1⟩ := trodAll_cons r0
  obtain ⟨v2, vs2, d2, ds2, p2, q2, rfl, rfl, rfl, h2, r2⟩ := trodAll_cons r1
  obtain ⟨v3, vs3, d3, ds3, p3, q3, rfl, rfl, rfl, h3, r3⟩ := trodAll_cons r2
  obtain ⟨rfl, rfl, rfl⟩ := trodAll_nil r3
  obtain rfl : args = #[v0, v1, v2, v3] := by cases args; simp_all
  obtain ⟨rfl, rfl⟩ := trodVars_none hV
  obtain ⟨a0, rfl, rfl, rfl, w0⟩ := open_int Try.underlying3 (hval 0 3 v0 rfl rfl) h0
  obtain ⟨a1, rfl, rfl, rfl, w1⟩ := open_int Try.underlying3 (hval 1 3 v1 rfl rfl) h1
  obtain ⟨a2, rfl, rfl, rfl, w2⟩ := open_int Try.underlying22 (hval 2 22 v2 rfl rfl) h2
  obtain ⟨a3, rfl, rfl, rfl, w3⟩ := open_int Try.underlying22 (hval 3 22 v3 rfl rfl) h3
  clear hA0 hval0
  simp only [List.append_nil] at hW'
  refine (walk a0 a1 a2 a3 w0 w1 w2 w3 W).mono fun e W' ⟨he, hg⟩ => ?_
  subst he
  exact ⟨_, rfl, post_of_same (pa := []) (pv := []) hW' (fun _ _ _ => (trodAll_cons_mk (shut_bool Try.underlying4 _) trodAll_mk0)) (fun sp _ => (trodAll_cons_mk (shut_int Try.underlying3 w0) (trodAll_cons_mk (shut_int Try.underlying3 w1) (trodAll_cons_mk (shut_int Try.underlying22 w2) (trodAll_cons_mk (shut_int Try.underlying22 w3) trodAll_mk0))))) (fun _ _ => rfl) rfl
    (hg.frame _) hg.2.1 (ok_one (by kernel_rfl) rfl (okWide_bool_mk Try.underlying4 _))⟩

theorem over : Rows.bitsFlagsRow.holds Try.pinned (OpenSpec.ofChange Rows.bitsFlagsSpec) :=
  OpenClaim.holds_of_wide 7 Try.f7 rfl rfl rfl rfl rfl rfl rfl ⟨rfl, rfl, rfl, rfl, rfl⟩ rfl rfl rfl rfl rfl (by kernel_rfl) Try.func7 (by kernel_rfl)
    (of_decide_eq_true (by kernel_rfl)) (by unfold Func.isWrapper; first | (rw [if_pos (by decide +kernel)]; kernel_rfl) | (rw [if_neg (by decide +kernel)]; exact ⟨rfl, rfl⟩))
    (fun os started H enc _ => lifted os started H enc)

/-- ████ THE STATEMENT ████ -/
theorem proved : Rows.BitsFlagsSaid :=
  over
#print axioms proved
end Go.Proofs.Ythhdgfhndijmeaa.bitsFlags
