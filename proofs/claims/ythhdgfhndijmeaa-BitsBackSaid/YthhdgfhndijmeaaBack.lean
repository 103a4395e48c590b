/- For every width, every wider one, and any two numbers: a number made wider and cut again is itself, with its sign, and sums may be cut ahead or behind: lathelaw01.BitsBack returns true, and leaves its arguments as they were. No conditions. -/
import Derived.Test.YthhdgfhndijmeaaRows
import Derived.WalkKit
import Derived.ProofKit
import Derived.OpenShut
import Derived.Test.YthhdgfhndijmeaaBitsI
namespace Go.Proofs.Ythhdgfhndijmeaa.bitsBack
open Go.ChangeShapes Go.WideShapes Go.ChangeAt Go.RowKit
set_option linter.unusedVariables false      -- a walk need not use every 'w<i>' (that an integer argument fits its kind)

theorem own : ownKnob Try.prog.godebug = none := by kernel_rfl

theorem sgn_wide {w v a : Int} (h1 : 1 ≤ w) (h : w < v) (h2 : v ≤ 64) : sgn v (sgn w a % pw v.toNat) = sgn w a := by
  rw [sgn_in _ (by omega) h2, Int.emod_emod]
  have hq := pw_pos w.toNat
  have hb : -pw (w.toNat - 1) ≤ sgn w a ∧ sgn w a < pw (w.toNat - 1) := by
    rw [sgn_in a h1 (by omega)]
    exact sg_bd (by omega) (Int.emod_nonneg a (by omega)) (Int.emod_lt_of_pos a hq)
  have hm := pw_mono (m := w.toNat - 1) (n := v.toNat - 1) (by omega)
  exact sg_uniq (by omega) ⟨0, by omega⟩ (by omega) (by omega)
theorem sgn_cut {w a : Int} (h1 : 1 ≤ w) (h2 : w ≤ 64) : sgn w a % pw w.toNat = a % pw w.toNat := by
  rw [sgn_in a h1 h2, sg_mod, Int.emod_emod]
theorem pw_dvd {m n : Nat} (h : m ≤ n) : pw m ∣ pw n := ⟨pw (n - m), by rw [← pw_add]; congr 1; omega⟩

/-! ### STEP 1: THE WALK: the Go text returns true. 'Grown w w'': the world has at most new blocks (Derived/RowKit3.lean). Part the cases AHEAD of 'go_enter' where a test parts the walk; take each callee by a contract of your own. -/
set_option maxHeartbeats 1000000 in
theorem walk (a0 : Int) (a1 : Int) (a2 : Int) (a3 : Int) (w0 : (Lit.int .i64 a0).wf = true) (w1 : (Lit.int .i64 a1).wf = true) (w2 : (Lit.int .u64 a2).wf = true) (w3 : (Lit.int .u64 a3).wf = true) (w : World) :
    Calls Try.prog 11 #[.int .i64 a0, .int .i64 a1, .int .u64 a2, .int .u64 a3] w fun e w' => e = .returned (.bool true) ∧ Grown w w' := by
  obtain ⟨l0, u0⟩ := i64_wf w0
  obtain ⟨l1, u1⟩ := i64_wf w1
  obtain ⟨l2, u2⟩ := u64_wf w2
  obtain ⟨l3, u3⟩ := u64_wf w3
  have cl := lives_gives
  have cw := width_gives a0 l0 u0
  obtain ⟨g1, g2⟩ := wid_bd a0
  generalize wid a0 = v at *
  clear w0 w1 w2 w3 l0 u0
  by_cases h64 : v = 64
  · subst h64
    clear g1 g2
    go_enter Try.func11, Try.ntmps11
    go_wp2_with (first
      | ((with_reducible refine (cl.go _).mono ?_); rintro e w' ⟨rfl, n0, rfl⟩)
      | ((with_reducible refine (cw.go _).mono ?_); rintro e w' ⟨rfl, n0, rfl⟩))
    go_ret
    exact ⟨rfl, grown_drewN _ _⟩
  · have g3 : v < 64 := by omega
    have k0 : 0 ≤ IntKind.u64.wrap a1 := by rw [u64w]; omega
    have k1 : 0 ≤ IntKind.u64.wrap a1 % (64 - v) := Int.emod_nonneg _ (by omega)
    have k2 : IntKind.u64.wrap a1 % (64 - v) < 64 - v := Int.emod_lt_of_pos _ (by omega)
    obtain ⟨r, hr⟩ : ∃ r, IntKind.u64.wrap a1 % (64 - v) = r := ⟨_, rfl⟩
    rw [hr] at k1 k2
    have m2 : v + 1 + r ≤ 64 := by omega
    have m1 : v < v + 1 + r := by omega
    have hwv : isW v = true := isW_iff.2 ⟨g1, g2⟩
    have hwm : isW (v + 1 + r) = true := isW_iff.2 ⟨by omega, m2⟩
    have U := fun z => mod_u64 z g1 g2
    have U2 := fun z => mod_u64 z (w := v + 1 + r) (by omega) m2
    have hd := pw_dvd (m := v.toNat) (n := (v + 1 + r).toNat) (by omega)
    have cm := Gives.of_same (Mask_any v)
    have hA := and_msk v a2 g1 g2 l2 (by omega)
    have c1 := (Gives.of_same (fun W => Convert_any 20 v (v + 1 + r) a2 l2 u2 W)).as (u := .tuple #[.int .u64 (a2 % pw v.toNat), .bool true]) (by simp [cvV, cvB, hwv, hwm, m1])
    have c2 := (Gives.of_same (fun W => Convert_any 21 v (v + 1 + r) a2 l2 u2 W)).as (u := .tuple #[.int .u64 (sgn v a2 % pw (v + 1 + r).toNat), .bool true]) (by simp [cvV, cvB, hwv, hwm, m1])
    have c3 := (Gives.of_same (fun W => Convert_any 22 (v + 1 + r) v (a2 % pw v.toNat) (U _).1 (U _).2 W)).as (u := .tuple #[.int .u64 (a2 % pw v.toNat), .bool true]) (by simp [cvV, cvB, hwv, hwm, m1])
    have c4 := (Gives.of_same (fun W => Convert_any 22 (v + 1 + r) v (sgn v a2 % pw (v + 1 + r).toNat) (U2 _).1 (U2 _).2 W)).as (u := .tuple #[.int .u64 (a2 % pw v.toNat), .bool true])
      (by simp [cvV, cvB, hwv, hwm, m1, Int.emod_emod_of_dvd _ hd, sgn_cut g1 g2])
    have c5 := (Gives.of_same (Signed_any (v + 1 + r) (sgn v a2 % pw (v + 1 + r).toNat))).as (u := .int .i64 (sgn v a2)) (one_eq (sgn_wide g1 m1 m2))
    have c6 := Gives.of_same (Signed_any v a2)
    have c7 := of_1 (v + 1 + r) a2 a3 (by omega) m2 l2 u2 l3 u3
    have c8 := (Gives.of_same (fun W => Convert_any 22 (v + 1 + r) v ((a2 + a3) % pw (v + 1 + r).toNat) (U2 _).1 (U2 _).2 W)).as (u := .tuple #[.int .u64 ((a2 + a3) % pw v.toNat), .bool true])
      (by simp [cvV, cvB, hwv, hwm, m1, Int.emod_emod_of_dvd _ hd])
    have c9 := of_1 v a2 a3 g1 g2 l2 u2 l3 u3
    clear U U2 hd hwv hwm
    generalize (a2 + a3) % pw (v + 1 + r).toNat = S at *
    generalize (a2 + a3) % pw v.toNat = T at *
    generalize sgn v a2 % pw (v + 1 + r).toNat = Y at *
    generalize sgn v a2 = Z at *
    generalize a2 % pw v.toNat = B at *
    generalize msk v = m at *
    obtain ⟨V, hV⟩ : ∃ V, v + 1 + r = V := ⟨_, rfl⟩
    rw [hV] at c1 c2 c3 c4 c5 c7 c8
    clear h64
    go_enter Try.func11, Try.ntmps11
    go_wp2_with (first
      | ((with_reducible refine (cl.go _).mono ?_); rintro e w' ⟨rfl, n0, rfl⟩)
      | ((with_reducible refine (cw.go _).mono ?_); rintro e w' ⟨rfl, n0, rfl⟩)
      | ((with_reducible refine (cm.go _).mono ?_); rintro e w' ⟨rfl, n0, rfl⟩)
      | ((with_reducible refine (c1.go _).mono ?_); rintro e w' ⟨rfl, n0, rfl⟩)
      | ((with_reducible refine (c2.go _).mono ?_); rintro e w' ⟨rfl, n0, rfl⟩)
      | ((with_reducible refine (c3.go _).mono ?_); rintro e w' ⟨rfl, n0, rfl⟩)
      | ((with_reducible refine (c4.go _).mono ?_); rintro e w' ⟨rfl, n0, rfl⟩)
      | ((with_reducible refine (c5.go _).mono ?_); rintro e w' ⟨rfl, n0, rfl⟩)
      | ((with_reducible refine (c6.go _).mono ?_); rintro e w' ⟨rfl, n0, rfl⟩)
      | ((with_reducible refine (c7.go _).mono ?_); rintro e w' ⟨rfl, n0, rfl⟩)
      | ((with_reducible refine (c8.go _).mono ?_); rintro e w' ⟨rfl, n0, rfl⟩)
      | ((with_reducible refine (c9.go _).mono ?_); rintro e w' ⟨rfl, n0, rfl⟩))
    go_ret
    exact ⟨rfl, grown_drewN _ _⟩

/-! ### THE ROW's STEP: WRITTEN OUT: LEAVE IT -/
set_option maxRecDepth 100000 in
theorem lifted (os : Os) (started : os.Started) (H : Type) (enc : TypeId × Value → H) :
    ReturnsInHanded {} Try.checked os 11 .any (Rows.bitsBackSpec.pre6 enc Try.prog Try.f11 Rows.bitsBackRow.domain false) (Rows.bitsBackSpec.post enc Try.prog Try.f11 false true false false) := by
  refine returnsInHanded_of_change (C := Try.checked) own started (by kernel_rfl) Try.func11
    (ChangeSpec.witness6 (enc := enc) (C := Try.checked) false ⟨#[], #[.int .i64 0, .int .i64 0, .int .u64 0, .int .u64 0], []⟩ 8 (by kernel_rfl) (by kernel_rfl) (by kernel_rfl) (by kernel_rfl)) ?_
  intro W base args ds gs before hval0 hW hcnd _
  have hval : ∀ (j : Nat) t v, Try.f11.params[j]? = some t → args[j]? = some v → Value.okWide Try.prog W .any base t v := hval0
  have hW' := hW
  obtain ⟨p, q, hA0, hV, rfl, hfz, hnd⟩ := hW
  have hA : DataW.TrodAll enc Try.prog W 0 (fun _ => true) true Try.f11.params.toList args.toList ds p := hA0
  rw [Try.params11] at hA hval
  obtain ⟨v0, vs0, d0, ds0, p0, q0, hargs, rfl, rfl, h0, r0⟩ := trodAll_cons hA
  obtain ⟨v1, vs1, d1, ds1, p1, q1, rfl, rfl, rfl, h1, r1⟩ := trodAll_cons r0
  obtain ⟨v2, vs2, d2, ds2, p2, q2, rfl, rfl, rfl, h2, r2⟩ := trodAll_cons r1
  obtain ⟨v3, vs3, d3, ds3, p3, q3, rfl, rfl, rfl, h3, r3⟩ := trodAll_cons r2
  obtain ⟨rfl, rfl, rfl⟩ := trodAll_nil r3
  obtain rfl : args = #[v0, v1, v2, v3] := by cases args; simp_all
  obtain ⟨rfl, rfl⟩ := trodVars_none hV
  obtain ⟨a0, rfl, rfl, rfl, w0⟩ := open_int Try.underlying3 (hval 0 3 v0 rfl rfl) h0
  obtain ⟨a1, rfl, rfl, rfl, w1⟩ := open_int Try.underlying3 (hval 1 3 v1 rfl rfl) h1
  obtain ⟨a2, rfl, rfl, rfl, w2⟩ := open_int Try.underlying22 (hval 2 22 v2 rfl rfl) h2
  obtain ⟨a3, rfl, rfl, rfl, w3⟩ := open_int Try.underlying22 (hval 3 22 v3 rfl rfl) h3
  clear hA0 hval0
  simp only [List.append_nil] at hW'
  refine (walk a0 a1 a2 a3 w0 w1 w2 w3 W).mono fun e W' ⟨he, hg⟩ => ?_
  subst he
  exact ⟨_, rfl, post_of_same (pa := []) (pv := []) hW' (fun _ _ _ => (trodAll_cons_mk (shut_bool Try.underlying4 _) trodAll_mk0)) (fun sp _ => (trodAll_cons_mk (shut_int Try.underlying3 w0) (trodAll_cons_mk (shut_int Try.underlying3 w1) (trodAll_cons_mk (shut_int Try.underlying22 w2) (trodAll_cons_mk (shut_int Try.underlying22 w3) trodAll_mk0))))) (fun _ _ => rfl) rfl
    (hg.frame _) hg.2.1 (ok_one (by kernel_rfl) rfl (okWide_bool_mk Try.underlying4 _))⟩

theorem over : Rows.bitsBackRow.holds Try.pinned (OpenSpec.ofChange Rows.bitsBackSpec) :=
  OpenClaim.holds_of_wide 11 Try.f11 rfl rfl rfl rfl rfl rfl rfl ⟨rfl, rfl, rfl, rfl, rfl⟩ rfl rfl rfl rfl rfl (by kernel_rfl) Try.func11 (by kernel_rfl)
    (of_decide_eq_true (by kernel_rfl)) (by unfold Func.isWrapper; first | (rw [if_pos (by decide +kernel)]; kernel_rfl) | (rw [if_neg (by decide +kernel)]; exact ⟨rfl, rfl⟩))
    (fun os started H enc _ => lifted os started H enc)

/-- ████ THE STATEMENT ████ -/
theorem proved : Rows.BitsBackSaid :=
  over
#print axioms proved
end Go.Proofs.Ythhdgfhndijmeaa.bitsBack
