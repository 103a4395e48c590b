/- Package spell: which operands, which types, which instructions may be said. -/
import Derived.Test.YtmampoakdjjbiaaGreatDoorSpE
import Derived.Test.YtmampoakdjjbiaaGreatDoorLexBase
import Derived.Test.YtmampoakdjjbiaaGreatDoorBaseG
namespace Go.Proofs.YtmampoakdjjbiaaGreatDoor
open Go.RowKit Go.Maps
set_option linter.unusedVariables false
set_option linter.unusedSimpArgs false

theorem below2 (W : World) (a b : Obj) : Below W.heap.size W ((W.alloc a).alloc b) := ((Below.refl _ _).alloc (Nat.le_refl _) a).alloc (by simp) b
set_option maxRecDepth 100000 in
set_option maxHeartbeats 4000000 in
theorem isOperand_any (m : LMod) (v : Arg) (hv : m.vn = m.vs.length) (W : World) :
    Calls Tryz.prog 65 #[.agg (modC m).toArray, .agg (argC v).toArray] W (Ans (.bool (argB (modD m) v)) W) := by
  obtain ⟨kd, nn, bt⟩ := v
  obtain ⟨vp, vn, vc, vs, xp, xn, xc, xs, fp, fn, fc, fs⟩ := m
  simp only at hv
  subst hv
  show Calls Tryz.prog 65 #[.agg #[.slice vp vs.length vc, .slice xp xn xc, .slice fp fn fc], .agg #[.int .i64 kd, .int .i64 nn, .int .u64 bt]] W (Ans (.bool (argB ⟨vs, xs.map extD, fs.map fnD⟩ ⟨kd, nn, bt⟩)) W)
  have hk : kd = 1 ∨ kd = 2 ∨ kd = 3 ∨ kd = 4 ∨ kd = 5 ∨ (kd ≠ 1 ∧ kd ≠ 2 ∧ kd ≠ 3 ∧ kd ≠ 4 ∧ kd ≠ 5) := by omega
  have B2 := below2 W (.cells #[.slice vp vs.length vc, .slice xp xn xc, .slice fp fn fc] 26) (.cells #[.int .i64 kd, .int .i64 nn, .int .u64 bt] 86)
  have HB2 := Lib.hid B2
  clear B2
  rcases hk with rfl | rfl | rfl | rfl | rfl | ⟨n1, n2, n3, n4, n5⟩
  · have cr := fun w => isRegister_any nn w
    have hA : argB ⟨vs, xs.map extD, fs.map fnD⟩ ⟨1, nn, bt⟩ = (regB nn && decide (bt = 0)) := rfl
    rw [hA]
    clear hA
    generalize regB nn = q at *
    go_enter Tryz.func65, Tryz.ntmps65
    go_wp2_with fail
    refine (cr _).mono ?_
    rintro e w2 ⟨rfl, rfl⟩
    cases q
    · go_wp2_with fail
      go_ret
      exact ⟨rfl, HB2.out⟩
    · go_wp2
      all_goals go_ret
      all_goals exact ⟨ret_bool (by rw [Bool.eq_iff_iff]; simp), HB2.out⟩
  · have hA : argB ⟨vs, xs.map extD, fs.map fnD⟩ ⟨2, nn, bt⟩ = decide (nn = 0) := rfl
    rw [hA]
    clear hA
    go_enter Tryz.func65, Tryz.ntmps65
    go_wp2
    all_goals go_ret
    all_goals exact ⟨ret_bool (by rw [Bool.eq_iff_iff]; simp <;> omega), below2 W _ _⟩
  · have hA : argB ⟨vs, xs.map extD, fs.map fnD⟩ ⟨3, nn, bt⟩ = decide (nn = 0 ∧ bt = 0) := rfl
    rw [hA]
    clear hA
    go_enter Tryz.func65, Tryz.ntmps65
    go_wp2
    all_goals go_ret
    all_goals exact ⟨ret_bool (by rw [Bool.eq_iff_iff]; simp <;> omega), below2 W _ _⟩
  · have hA : argB ⟨vs, xs.map extD, fs.map fnD⟩ ⟨4, nn, bt⟩ = decide (nn = 0 ∧ bt = 0) := rfl
    rw [hA]
    clear hA
    go_enter Tryz.func65, Tryz.ntmps65
    go_wp2
    all_goals go_ret
    all_goals exact ⟨ret_bool (by rw [Bool.eq_iff_iff]; simp <;> omega), below2 W _ _⟩
  · have hA : argB ⟨vs, xs.map extD, fs.map fnD⟩ ⟨5, nn, bt⟩ = decide (0 ≤ nn ∧ nn < vs.length ∧ bt = 0) := rfl
    rw [hA]
    clear hA
    go_enter Tryz.func65, Tryz.ntmps65
    go_wp2
    all_goals go_ret
    all_goals exact ⟨ret_bool (by rw [Bool.eq_iff_iff]; simp <;> omega), below2 W _ _⟩
  · have hA : argB ⟨vs, xs.map extD, fs.map fnD⟩ ⟨kd, nn, bt⟩ = false := by
      unfold argB
      simp only
      rw [if_neg n1, if_neg n2, if_neg (by omega), if_neg n5]
    rw [hA]
    have e1 : (kd == (1 : Int)) = false := by simp; exact n1
    have e2 : (kd == (2 : Int)) = false := by simp; exact n2
    have e3 : (kd == (3 : Int)) = false := by simp; exact n3
    have e4 : (kd == (4 : Int)) = false := by simp; exact n4
    have e5 : (kd == (5 : Int)) = false := by simp; exact n5
    clear hA n1 n2 n3 n4 n5
    go_enter Tryz.func65, Tryz.ntmps65
    go_wp2_with fail
    go_ret
    exact ⟨rfl, HB2.out⟩
theorem callD_R {m : PMod} {n t : Int} {b : Bool} {ps : List Int} (h : callD m n = (b, ps, t)) : (b = true ∧ calR m.xs m.fs n = some t) ∨ (b = false ∧ calR m.xs m.fs n = none) := by
  unfold callD at h
  unfold calR
  by_cases h0 : 0 ≤ n
  · rw [if_pos h0] at h ⊢
    cases e : m.fs[n.toNat]? with
    | none => rw [e] at h; injection h with h1 _; exact .inr ⟨h1.symm, rfl⟩
    | some f => rw [e] at h; injection h with h1 h2; injection h2 with _ h3; exact .inl ⟨h1.symm, by rw [← h3]; rfl⟩
  · rw [if_neg h0] at h ⊢
    cases e : m.xs[(-1 - n).toNat]? with
    | none => rw [e] at h; injection h with h1 _; exact .inr ⟨h1.symm, rfl⟩
    | some f => rw [e] at h; injection h with h1 h2; injection h2 with _ h3; exact .inl ⟨h1.symm, by rw [← h3]; rfl⟩
def tyI (m : PMod) (op ty n : Int) (al : Nat) : Bool :=
  if op = 26 ∨ op = 29 then decide (ty = 65)
  else if op = 30 then decide (calR m.xs m.fs n = some ty)
  else if op = 31 ∨ op = 32 ∨ op = 34 then decide (ty = 0)
  else if op = 33 then tyB ty && decide (al = 1 ∨ ty = 0)
  else tyB ty
set_option maxRecDepth 100000 in
set_option maxHeartbeats 8000000 in
theorem hasType_any (m : LMod) (x : LI) (W : World) (hm : ModIn W.heap.size W m) (hq : modZ (modD m) ≤ 1048576) (hn : -9223372036854775808 ≤ x.1.n) (hn' : x.1.n ≤ 9223372036854775807) :
    Calls Tryz.prog 58 #[.agg (modC m).toArray, .agg (liC x).toArray] W (Ans (.bool (tyI (modD m) x.1.op x.1.ty x.1.n x.1.al)) W) := by
  have cc := fun w (hb : Below W.heap.size W w) => Callee_own m x.1.n hn hn' hq w (lasts_Mod _ _ _ _ _ hb hb.size hm)
  obtain ⟨⟨op, rg, ty, nn, fl, ap, al, ac, tp, tl, tc, rs⟩, ts⟩ := x
  simp only at cc hn hn'
  obtain ⟨D, eD⟩ : ∃ D, modD m = D := ⟨_, rfl⟩
  rw [eD]
  obtain ⟨vp, vn, vc, vs, xp, xn, xc, xs, fp, fn, fc, fs⟩ := m
  have cc : ∀ w, Below W.heap.size W w → Calls Tryz.prog 92 #[.agg #[.slice vp vn vc, .slice xp xn xc, .slice fp fn fc], .int .i64 nn] w fun e w' => ∃ p k c ps t b, e = .returned (.tuple #[.slice p k c, .int .i64 t, .bool b]) ∧ callD D nn = (b, ps, t) ∧ Past w.heap.size w w' ∧ True := fun w hb => (cc w hb).mono (fun e w' ⟨p, k, c, ps, t, b, h1, h2, h3, _⟩ => ⟨p, k, c, ps, t, b, h1, by rw [← eD]; exact h2, h3, trivial⟩)
  clear hm hq eD
  have ct := fun w => isType_any ty w
  show Calls Tryz.prog 58 #[.agg #[.slice vp vn vc, .slice xp xn xc, .slice fp fn fc], .agg #[.int .i64 op, .int .i64 rg, .int .i64 ty, .int .i64 nn, .int .i64 fl, .slice ap al ac, .slice tp tl tc]] W (Ans (.bool (tyI D op ty nn al)) W)
  have HB2 := Lib.hid (below2 W (.cells #[.slice vp vn vc, .slice xp xn xc, .slice fp fn fc] 26) (.cells #[.int .i64 op, .int .i64 rg, .int .i64 ty, .int .i64 nn, .int .i64 fl, .slice ap al ac, .slice tp tl tc] 39))
  rcases op_cases op with rfl | rfl | rfl | rfl | rfl | rfl | rfl | rfl | rfl | rfl | rfl | rfl | rfl | rfl | hno
  · have hT : tyI D 20 ty nn al = tyB ty := by unfold tyI; simp
    rw [hT]
    clear hT
    go_enter Tryz.func58, Tryz.ntmps58
    go_wp2_with fail
    refine (ct _).mono ?_
    rintro e w2 ⟨rfl, rfl⟩
    go_wp2_with fail
    go_ret
    exact ⟨rfl, HB2.out⟩
  · have hT : tyI D 21 ty nn al = tyB ty := by unfold tyI; simp
    rw [hT]
    clear hT
    go_enter Tryz.func58, Tryz.ntmps58
    go_wp2_with fail
    refine (ct _).mono ?_
    rintro e w2 ⟨rfl, rfl⟩
    go_wp2_with fail
    go_ret
    exact ⟨rfl, HB2.out⟩
  · have hT : tyI D 22 ty nn al = tyB ty := by unfold tyI; simp
    rw [hT]
    clear hT
    go_enter Tryz.func58, Tryz.ntmps58
    go_wp2_with fail
    refine (ct _).mono ?_
    rintro e w2 ⟨rfl, rfl⟩
    go_wp2_with fail
    go_ret
    exact ⟨rfl, HB2.out⟩
  · have hT : tyI D 23 ty nn al = tyB ty := by unfold tyI; simp
    rw [hT]
    clear hT
    go_enter Tryz.func58, Tryz.ntmps58
    go_wp2_with fail
    refine (ct _).mono ?_
    rintro e w2 ⟨rfl, rfl⟩
    go_wp2_with fail
    go_ret
    exact ⟨rfl, HB2.out⟩
  · have hT : tyI D 24 ty nn al = tyB ty := by unfold tyI; simp
    rw [hT]
    clear hT
    go_enter Tryz.func58, Tryz.ntmps58
    go_wp2_with fail
    refine (ct _).mono ?_
    rintro e w2 ⟨rfl, rfl⟩
    go_wp2_with fail
    go_ret
    exact ⟨rfl, HB2.out⟩
  · have hT : tyI D 25 ty nn al = tyB ty := by unfold tyI; simp
    rw [hT]
    clear hT
    go_enter Tryz.func58, Tryz.ntmps58
    go_wp2_with fail
    refine (ct _).mono ?_
    rintro e w2 ⟨rfl, rfl⟩
    go_wp2_with fail
    go_ret
    exact ⟨rfl, HB2.out⟩
  · have hT : tyI D 26 ty nn al = decide (ty = 65) := by unfold tyI; simp
    rw [hT]
    clear hT
    go_enter Tryz.func58, Tryz.ntmps58
    go_wp2
    all_goals go_ret
    all_goals exact ⟨ret_bool (by rw [Bool.eq_iff_iff]; simp), below2 W _ _⟩
  · have hT : tyI D 27 ty nn al = tyB ty := by unfold tyI; simp
    rw [hT]
    clear hT
    go_enter Tryz.func58, Tryz.ntmps58
    go_wp2_with fail
    refine (ct _).mono ?_
    rintro e w2 ⟨rfl, rfl⟩
    go_wp2_with fail
    go_ret
    exact ⟨rfl, HB2.out⟩
  · have hT : tyI D 29 ty nn al = decide (ty = 65) := by unfold tyI; simp
    rw [hT]
    clear hT
    go_enter Tryz.func58, Tryz.ntmps58
    go_wp2
    all_goals go_ret
    all_goals exact ⟨ret_bool (by rw [Bool.eq_iff_iff]; simp), below2 W _ _⟩
  · have hT : tyI D 30 ty nn al = decide (calR D.xs D.fs nn = some ty) := by unfold tyI; simp
    rw [hT]
    clear hT
    go_enter Tryz.func58, Tryz.ntmps58
    go_wp2_with fail
    refine (cc _ (below2 W _ _)).mono ?_
    rintro e w2 ⟨p, kk, c, ps, t, b, rfl, hcd, hp, -⟩
    have hb3 := HB2.out.trans (hp.2.mono HB2.out.size)
    have HB3 := Lib.hid hb3
    have gk : w2.cell? ⟨W.heap.size + 1, 2, none⟩ = some (.int .i64 ty) := (hp.2.cell (p := ⟨W.heap.size + 1, 2, none⟩) (by simp)).trans (by rw [World.cell?_alloc_at _ _ _ _ (by simp)]; rfl)
    rcases callD_R hcd with ⟨rfl, hr⟩ | ⟨rfl, hr⟩
    · have HR := Lib.hid hr
      clear hp hcd hb3 hr
      by_cases h1 : t = ty
      · have d1 : (ty == t) = true := by simp [h1]
        have H1 := Lib.hid h1
        clear h1
        go_wp2_with fail
        go_ret
        exact ⟨ret_bool (by rw [HR.out, H1.out]; simp), HB3.out⟩
      · have d1 : (ty == t) = false := by simp; exact fun e => h1 e.symm
        have H1 := Lib.hid h1
        clear h1
        go_wp2_with fail
        go_ret
        exact ⟨ret_bool (by rw [HR.out]; simp [H1.out]), HB3.out⟩
    · have HR := Lib.hid hr
      clear hp hcd hb3 hr
      go_wp2_with fail
      go_ret
      exact ⟨ret_bool (by rw [HR.out]; simp), HB3.out⟩
  · have hT : tyI D 31 ty nn al = decide (ty = 0) := by unfold tyI; simp
    rw [hT]
    clear hT
    go_enter Tryz.func58, Tryz.ntmps58
    go_wp2
    all_goals go_ret
    all_goals exact ⟨ret_bool (by rw [Bool.eq_iff_iff]; simp), below2 W _ _⟩
  · have hT : tyI D 32 ty nn al = decide (ty = 0) := by unfold tyI; simp
    rw [hT]
    clear hT
    go_enter Tryz.func58, Tryz.ntmps58
    go_wp2
    all_goals go_ret
    all_goals exact ⟨ret_bool (by rw [Bool.eq_iff_iff]; simp), below2 W _ _⟩
  · have hT : tyI D 33 ty nn al = (tyB ty && decide (al = 1 ∨ ty = 0)) := by unfold tyI; simp
    rw [hT]
    clear hT
    obtain ⟨q, eq⟩ : ∃ q, tyB ty = q := ⟨_, rfl⟩
    simp only [eq] at ct ⊢
    clear eq
    go_enter Tryz.func58, Tryz.ntmps58
    go_wp2_with fail
    refine (ct _).mono ?_
    rintro e w2 ⟨rfl, rfl⟩
    cases q
    · go_wp2_with fail
      go_ret
      exact ⟨rfl, HB2.out⟩
    · go_wp2
      all_goals go_ret
      all_goals exact ⟨ret_bool (by rw [Bool.eq_iff_iff]; simp <;> omega), below2 W _ _⟩
  · have hT : tyI D 34 ty nn al = decide (ty = 0) := by unfold tyI; simp
    rw [hT]
    clear hT
    go_enter Tryz.func58, Tryz.ntmps58
    go_wp2
    all_goals go_ret
    all_goals exact ⟨ret_bool (by rw [Bool.eq_iff_iff]; simp), below2 W _ _⟩
  · obtain ⟨n20, n21, n22, n23, n24, n25, n26, n27, n29, n30, n31, n32, n33, n34⟩ := hno
    have e20 : (op == (20 : Int)) = false := by simp; omega
    have e21 : (op == (21 : Int)) = false := by simp; omega
    have e22 : (op == (22 : Int)) = false := by simp; omega
    have e23 : (op == (23 : Int)) = false := by simp; omega
    have e24 : (op == (24 : Int)) = false := by simp; omega
    have e25 : (op == (25 : Int)) = false := by simp; omega
    have e26 : (op == (26 : Int)) = false := by simp; omega
    have e27 : (op == (27 : Int)) = false := by simp; omega
    have e29 : (op == (29 : Int)) = false := by simp; omega
    have e30 : (op == (30 : Int)) = false := by simp; omega
    have e31 : (op == (31 : Int)) = false := by simp; omega
    have e32 : (op == (32 : Int)) = false := by simp; omega
    have e33 : (op == (33 : Int)) = false := by simp; omega
    have e34 : (op == (34 : Int)) = false := by simp; omega
    have hT : tyI D op ty nn al = tyB ty := by unfold tyI; simp [*]
    rw [hT]
    clear hT
    clear n20 n21 n22 n23 n24 n25 n26 n27 n29 n30 n31 n32 n33 n34
    go_enter Tryz.func58, Tryz.ntmps58
    go_wp2_with fail
    refine (ct _).mono ?_
    rintro e w2 ⟨rfl, rfl⟩
    go_wp2_with fail
    go_ret
    exact ⟨rfl, HB2.out⟩
end Go.Proofs.YtmampoakdjjbiaaGreatDoor
