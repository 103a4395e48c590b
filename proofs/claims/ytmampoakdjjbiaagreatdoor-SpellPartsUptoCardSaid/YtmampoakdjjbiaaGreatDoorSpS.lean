/- The document's instr: which instructions may be said. -/
import Derived.Test.YtmampoakdjjbiaaGreatDoorSpR
import Derived.Deep.RegionHeld3
import Derived.Deep.DeepCutAuto
import Derived.Deep.QuietTactic
namespace Go.Proofs.YtmampoakdjjbiaaGreatDoor
open Go.RowKit Go.Maps
set_option linter.unusedVariables false
set_option linter.unusedSimpArgs false

def rinsB (m : PMod) (x : PIns) : Bool := insB m x && (decide (x.op ≠ 30) || tyB x.ty)
theorem rtyI_eq {m : PMod} {op ty n : Int} {al tl : Nat} (h : cntI op al tl = true) : rtyI m op ty n al = (tyI m op ty n al && (decide (op ≠ 30) || tyB ty)) := by
  unfold rtyI tyI
  by_cases h1 : op = 26 ∨ op = 29
  · rw [if_pos h1, if_pos h1, decide_eq_true (by omega : op ≠ 30)]; simp
  rw [if_neg h1, if_neg h1]
  by_cases h2 : op = 30
  · rw [if_pos h2, if_pos h2, decide_eq_false (by omega : ¬ op ≠ 30)]; simp
  rw [if_neg h2, if_neg h2, decide_eq_true (by omega : op ≠ 30)]
  by_cases h3 : op = 31 ∨ op = 32 ∨ op = 34
  · rw [if_pos h3, if_pos h3]; simp
  rw [if_neg h3, if_neg h3]
  by_cases h4 : op = 33
  · rw [if_pos h4, if_pos h4]
    have : (0 < al ∨ ty = 0) ↔ (al = 1 ∨ ty = 0) := by
      subst h4
      unfold cntI at h
      simp at h
      omega
    simp only [this]
    simp
  rw [if_neg h4, if_neg h4]
  simp
theorem rinsB_eq (D : PMod) (x : LI) (al tl : Nat) (hal : al = x.1.args.length) (htl : tl = x.2.length) : rinsB D (insD x) = (decide ((cA x.1.op al).1 = (al : Int)) && decide ((cA x.1.op al).2 = (tl : Int)) && rtyI D x.1.op x.1.ty x.1.n al && numI x.1.op x.1.n && hasRegI x.1.op x.1.reg && flI x.1.op x.1.fl && x.2.all tgB && x.1.args.all (argB D)) := by
  have e : rinsB D (insD x) = ((decide (1 ≤ x.1.op ∧ x.1.op ≤ 34) && cntI x.1.op al tl && tyI D x.1.op x.1.ty x.1.n al && numI x.1.op x.1.n && flI x.1.op x.1.fl && hasRegI x.1.op x.1.reg && x.2.all tgB && x.1.args.all (argB D)) && (decide (x.1.op ≠ 30) || tyB x.1.ty)) := by
    rw [hal, htl]
    rfl
  rw [e]
  clear e hal htl
  by_cases h : (cA x.1.op al).1 = (al : Int) ∧ (cA x.1.op al).2 = (tl : Int)
  · obtain ⟨h1, h2⟩ := (cA_iff _ _ _).1 h
    rw [rtyI_eq h2, decide_eq_true h.1, decide_eq_true h.2, decide_eq_true h1, h2]
    generalize tyI D x.1.op x.1.ty x.1.n al = b1
    generalize numI x.1.op x.1.n = b2
    generalize flI x.1.op x.1.fl = b3
    generalize hasRegI x.1.op x.1.reg = b4
    generalize x.2.all tgB = b5
    generalize x.1.args.all (argB D) = b6
    generalize (decide (x.1.op ≠ 30) || tyB x.1.ty) = b7
    cases b1 <;> cases b2 <;> cases b3 <;> cases b4 <;> cases b5 <;> cases b6 <;> cases b7 <;> rfl
  · have h1 : (decide (1 ≤ x.1.op ∧ x.1.op ≤ 34) && cntI x.1.op al tl) = false := by
      rw [Bool.eq_false_iff]
      intro k
      rw [Bool.and_eq_true, decide_eq_true_eq] at k
      exact h ((cA_iff _ _ _).2 k)
    have h2 : (decide ((cA x.1.op al).1 = (al : Int)) && decide ((cA x.1.op al).2 = (tl : Int))) = false := by
      rw [Bool.eq_false_iff]
      intro k
      rw [Bool.and_eq_true, decide_eq_true_eq, decide_eq_true_eq] at k
      exact h k
    rw [h1, h2]
    simp only [Bool.false_and]
theorem IS.drew {W w : World} {mv iv : List Value} (h : IS W mv iv w) : IS W mv iv w.drew := h.later (below_drew (Below.refl _ _))
theorem IS.all {W w : World} {mv iv : List Value} (h : IS W mv iv w) : ∀ u, Below w.heap.size w u → IS W mv iv u := fun u hu => h.later hu
set_option maxRecDepth 100000 in
set_option maxHeartbeats 8000000 in
theorem rInstr_any (m : LMod) (x : LI) (W : World) (hm : ModIn W.heap.size W m) (hx : InsIn W.heap.size W x) (hn : -9223372036854775808 ≤ x.1.n) (hn' : x.1.n ≤ 9223372036854775807) :
    Calls Tryz.prog 31 #[.agg (modC m).toArray, .agg (liC x).toArray] W (Ans (.bool (rinsB (modD m) (insD x))) W) := by
  rw [rinsB_eq (modD m) x x.1.al x.1.tl hx.1.1 hx.2.1]
  have k2 := fun w (hb : Below W.heap.size W w) => rTyped_any m x w (lasts_Mod _ _ _ _ _ hb hb.size hm) hn hn'
  have hal := hx.1.1
  have htl := hx.2.1
  have hal2 : x.1.al ≤ 9223372036854775807 := by have h1 := hx.1.2.1; have h2 := hx.1.2.2.1; unfold maxLen at h2; omega
  have htl2 : x.1.tl ≤ 9223372036854775807 := by have h1 := hx.2.2.1; have h2 := hx.2.2.2.1; unfold maxLen at h2; omega
  have HX := Lib.hid hx
  have kO := fun v w => rOperand_any m v hm.1.1 w
  obtain ⟨⟨op, rg, ty, nn, fl, ap, al, ac, tp, tl, tc, rs⟩, ts⟩ := x
  simp only at hal htl hal2 htl2 k2 ⊢
  have HX : Hid (ListIn argC NoMem W.heap.size W ap al ac rs ∧ ListIn intC NoMem W.heap.size W tp tl tc ts) := HX
  have k1 := fun w => rCounts_any op rg ty nn fl ap tp al ac tl tc w
  have k3 := fun w => rNumbered_any op rg ty nn fl ap tp al ac tl tc w
  have k5 := fun w => rRegister_any op rg ty nn fl ap tp al ac tl tc w
  obtain ⟨D, eD⟩ : ∃ D, modD m = D := ⟨_, rfl⟩
  simp only [eD] at k2 kO ⊢
  obtain ⟨ca, eca⟩ : ∃ c, (cA op al).1 = c := ⟨_, rfl⟩
  obtain ⟨cb, ecb⟩ : ∃ c, (cA op al).2 = c := ⟨_, rfl⟩
  simp only [eca, ecb] at k1 ⊢
  obtain ⟨qa, ea⟩ : ∃ q, decide (ca = (al : Int)) = q := ⟨_, rfl⟩
  obtain ⟨qb, eb⟩ : ∃ q, decide (cb = (tl : Int)) = q := ⟨_, rfl⟩
  have da : (ca == (al : Int)) = qa := by rw [← ea]; rfl
  have db : (cb == (tl : Int)) = qb := by rw [← eb]; rfl
  obtain ⟨q2, e2⟩ : ∃ q, rtyI D op ty nn al = q := ⟨_, rfl⟩
  obtain ⟨q3, e3⟩ : ∃ q, numI op nn = q := ⟨_, rfl⟩
  obtain ⟨q4, e4⟩ : ∃ q, flI op fl = q := ⟨_, rfl⟩
  obtain ⟨q5, e5⟩ : ∃ q, hasRegI op rg = q := ⟨_, rfl⟩
  obtain ⟨q6, e6⟩ : ∃ q, ts.all tgB = q := ⟨_, rfl⟩
  obtain ⟨q7, e7⟩ : ∃ q, rs.all (argB D) = q := ⟨_, rfl⟩
  simp only [ea, eb, e2, e3, e4, e5, e6, e7] at k2 k3 k5 ⊢
  have HQ := Lib.hid (And.intro e4 (And.intro e6 e7))
  obtain ⟨vp, vn, vc, vs, xp, xn, xc, xs, fp, fn, fc, fs⟩ := m
  have k2 : ∀ w, Below W.heap.size W w → Calls Tryz.prog 69 #[.agg #[.slice vp vn vc, .slice xp xn xc, .slice fp fn fc], .agg #[.int .i64 op, .int .i64 rg, .int .i64 ty, .int .i64 nn, .int .i64 fl, .slice ap al ac, .slice tp tl tc]] w (Ans (.bool q2) w) := k2
  have kO : ∀ v w, Calls Tryz.prog 72 #[.agg #[.slice vp vn vc, .slice xp xn xc, .slice fp fn fc], .agg #[.int .i64 v.kind, .int .i64 v.n, .int .u64 v.bits]] w (Ans (.bool (argB D v)) w) := kO
  have HS := Lib.hid (IS.new W [.slice vp vn vc, .slice xp xn xc, .slice fp fn fc] [.int .i64 op, .int .i64 rg, .int .i64 ty, .int .i64 nn, .int .i64 fl, .slice ap al ac, .slice tp tl tc] 26 39)
  have HK := Lib.hid (And.intro k1 (And.intro k2 (And.intro k3 (And.intro k5 kO))))
  show Calls Tryz.prog 31 #[.agg #[.slice vp vn vc, .slice xp xn xc, .slice fp fn fc], .agg #[.int .i64 op, .int .i64 rg, .int .i64 ty, .int .i64 nn, .int .i64 fl, .slice ap al ac, .slice tp tl tc]] W _
  have HL := Lib.hid (And.intro hal htl)
  clear hal htl k1 k2 k3 k5 kO hm hx hn hn' eD ea eb e2 e3 e4 e5 e6 e7 eca ecb
  have c := HK.out.1 ((W.alloc (.cells #[.slice vp vn vc, .slice xp xn xc, .slice fp fn fc] 26)).alloc (.cells #[.int .i64 op, .int .i64 rg, .int .i64 ty, .int .i64 nn, .int .i64 fl, .slice ap al ac, .slice tp tl tc] 39))
  go_enter Tryz.func31, Tryz.ntmps31
  go_wp2_with fail
  refine c.mono ?_
  rintro e w1 ⟨rfl, hb⟩
  have HS := Lib.hid (HS.out.later hb)
  clear c hb
  have y0 := HS.out.1.get 0 _ rfl
  have y1 := HS.out.1.get 1 _ rfl
  have y2 := HS.out.1.get 2 _ rfl
  have z0 := HS.out.2.1.get 0 _ rfl
  have z1 := HS.out.2.1.get 1 _ rfl
  have z2 := HS.out.2.1.get 2 _ rfl
  have z3 := HS.out.2.1.get 3 _ rfl
  have z4 := HS.out.2.1.get 4 _ rfl
  have z5 := HS.out.2.1.get 5 _ rfl
  have z6 := HS.out.2.1.get 6 _ rfl
  cases qa
  case false =>
    go_wp2_with fail
    go_ret
    exact ⟨ret_bool (by simp), HS.out.2.2⟩
  cases qb
  case false =>
    go_wp2_with fail
    go_ret
    exact ⟨ret_bool (by simp), HS.out.2.2⟩
  have c := HK.out.2.1 w1 HS.out.2.2
  go_wp2_with fail
  refine c.mono ?_
  rintro e w2 ⟨rfl, hb⟩
  have HS := Lib.hid (HS.out.later hb)
  clear c hb y0 y1 y2 z0 z1 z2 z3 z4 z5 z6
  have z4 := HS.out.2.1.get 4 _ rfl
  have z0 := HS.out.2.1.get 0 _ rfl
  cases q2
  case false =>
    go_wp2_with fail
    go_ret
    exact ⟨ret_bool (by simp), HS.out.2.2⟩
  clear z4 z0
  have y0 := HS.out.1.get 0 _ rfl
  have y1 := HS.out.1.get 1 _ rfl
  have y2 := HS.out.1.get 2 _ rfl
  have z0 := HS.out.2.1.get 0 _ rfl
  have z1 := HS.out.2.1.get 1 _ rfl
  have z2 := HS.out.2.1.get 2 _ rfl
  have z3 := HS.out.2.1.get 3 _ rfl
  have z4 := HS.out.2.1.get 4 _ rfl
  have z5 := HS.out.2.1.get 5 _ rfl
  have z6 := HS.out.2.1.get 6 _ rfl
  have c := HK.out.2.2.1 w2
  go_wp2_with fail
  refine c.mono ?_
  rintro e w3 ⟨rfl, hb⟩
  have HS := Lib.hid (HS.out.later hb)
  clear c hb y0 y1 y2 z0 z1 z2 z3 z4 z5 z6
  have z4 := HS.out.2.1.get 4 _ rfl
  have z0 := HS.out.2.1.get 0 _ rfl
  cases q3
  case false =>
    go_wp2_with fail
    go_ret
    exact ⟨ret_bool (by simp), HS.out.2.2⟩
  clear z4 z0
  have y0 := HS.out.1.get 0 _ rfl
  have y1 := HS.out.1.get 1 _ rfl
  have y2 := HS.out.1.get 2 _ rfl
  have z0 := HS.out.2.1.get 0 _ rfl
  have z1 := HS.out.2.1.get 1 _ rfl
  have z2 := HS.out.2.1.get 2 _ rfl
  have z3 := HS.out.2.1.get 3 _ rfl
  have z4 := HS.out.2.1.get 4 _ rfl
  have z5 := HS.out.2.1.get 5 _ rfl
  have z6 := HS.out.2.1.get 6 _ rfl
  have c := HK.out.2.2.2.1 w3
  go_wp2_with fail
  refine c.mono ?_
  rintro e w4 ⟨rfl, hb⟩
  have HS := Lib.hid (HS.out.later hb)
  clear c hb y0 y1 y2 z0 z1 z2 z3 z4 z5 z6
  have z4 := HS.out.2.1.get 4 _ rfl
  have z0 := HS.out.2.1.get 0 _ rfl
  cases q5
  case false =>
    go_wp2_with fail
    go_ret
    exact ⟨ret_bool (by simp), HS.out.2.2⟩
  have hf := HQ.out.1
  unfold flI at hf
  have z6 := HS.out.2.1.get 6 _ rfl
  have z5 := HS.out.2.1.get 5 _ rfl
  have main : q4 = true → ¬ fl < 0 ∧ ¬ 7 < fl ∧ (fl = 0 ∨ ¬ 13 < op) := by
    intro h
    rw [h] at hf
    by_cases h13 : 13 < op
    · rw [if_pos h13] at hf
      have := of_decide_eq_true hf
      omega
    · rw [if_neg h13] at hf
      have := of_decide_eq_true hf
      omega
  have other : q4 = false → fl < 0 ∨ 7 < fl ∨ (fl ≠ 0 ∧ 13 < op) := by
    intro h
    rw [h] at hf
    by_cases h13 : 13 < op
    · rw [if_pos h13] at hf
      have := of_decide_eq_false hf
      omega
    · rw [if_neg h13] at hf
      have := of_decide_eq_false hf
      omega
  have HMO := Lib.hid (And.intro main other)
  clear main other hf
  have HQ2 := Lib.hid HQ.out.2
  clear HQ
  cases q4
  case false =>
    have ho := HMO.out.2 rfl
    clear HMO
    by_cases h1 : fl < 0
    · have d : decide (fl < (0 : Int)) = true := by simp [h1]
      clear ho h1
      go_wp2_with fail
      go_ret
      exact ⟨ret_bool (by simp), HS.out.2.2⟩
    · have d : decide (fl < (0 : Int)) = false := by simp; omega
      by_cases h2 : 7 < fl
      · have d2 : decide ((7 : Int) < fl) = true := by simp [h2]
        clear ho h1 h2
        go_wp2_with fail
        go_ret
        exact ⟨ret_bool (by simp), HS.out.2.2⟩
      · have d2 : decide ((7 : Int) < fl) = false := by simp; omega
        have h3 : fl ≠ 0 ∧ 13 < op := by omega
        have d3 : (fl == (0 : Int)) = false := by simp; exact h3.1
        have d3' : (fl != (0 : Int)) = true := by simp; exact h3.1
        have d4 : decide ((13 : Int) < op) = true := by simp [h3.2]
        clear ho h1 h2 h3
        go_wp2_with fail
        go_ret
        exact ⟨ret_bool (by simp), HS.out.2.2⟩
  have hmain := HMO.out.1 rfl
  clear HMO
  have d : decide (fl < (0 : Int)) = false := by simp; omega
  have d2 : decide ((7 : Int) < fl) = false := by simp; omega
  obtain ⟨f0, d3, d3', d4⟩ : ∃ f0, (fl == (0 : Int)) = f0 ∧ (fl != (0 : Int)) = !f0 ∧ (f0 = false → decide ((13 : Int) < op) = false) := by
    by_cases h : fl = 0
    · exact ⟨true, by simp [h], by simp [h], by simp⟩
    · exact ⟨false, by simp [h], by simp [h], fun _ => by have := hmain.2.2.resolve_left h; simp; omega⟩
  cases f0
  case false =>
    have d4 := d4 rfl
    have HS := HS
    go_wp2_with fail
    clear z4 z0 d d2
    go_loopw [8] (fun t wr => ∃ i : Nat, i ≤ tl ∧ t = .int .i64 i ∧ Hid ((ts.take i).all tgB = true) ∧ wr = w4) (fun t _ => tl - (intOf t).toNat)
    case atStart => exact ⟨0, Nat.zero_le _, rfl, Lib.hid (by simp), rfl⟩
    case round =>
      obtain ⟨i, hi, rfl, ha, rfl⟩ := hrel
      by_cases hlt : i < tl
      · obtain ⟨a, rfl, hab, k0⟩ := row_I HX.out.2 i (by have := HL.out.2; omega)
        have k0 := (HS.out.2.2.cell (p := a.add i) (by rw [add_block]; exact hab)).trans k0
        have HA := Lib.hid (all_take tgB ts i (by have := HL.out.2; omega) ha.out)
        have HT := Lib.hid (all_miss tgB ts i (by have := HL.out.2; omega))
        obtain ⟨x, ex⟩ : ∃ x, ts[i]'(by have := HL.out.2; omega) = x := ⟨_, rfl⟩
        simp only [ex] at HA HT k0
        clear ex ha
        by_cases h0 : x < 0
        · have d0 : decide (x < (0 : Int)) = true := by simp [h0]
          have HF := Lib.hid (HT.out (by unfold tgB; simp; omega))
          clear h0
          go_wp2_with fail
          go_ret
          exact ⟨ret_bool (by rw [← HQ2.out.1, HF.out]; simp), HS.out.2.2⟩
        · have d0 : decide (x < (0 : Int)) = false := by simp; omega
          by_cases h1 : 999 < x
          · have d1 : decide ((999 : Int) < x) = true := by simp [h1]
            have HF := Lib.hid (HT.out (by unfold tgB; simp; omega))
            clear h0 h1
            go_wp2_with fail
            go_ret
            exact ⟨ret_bool (by rw [← HQ2.out.1, HF.out]; simp), HS.out.2.2⟩
          · have d1 : decide ((999 : Int) < x) = false := by simp; omega
            have HF := Lib.hid (HA.out.trans (show tgB x = true by unfold tgB; simp; omega))
            clear h0 h1
            go_wp2_with fail
            exact ⟨⟨i + 1, by omega, by go_num, HF, by first | rfl | trivial⟩, by simp [intOf]; omega⟩
      · obtain rfl : tl = i := by omega
        have H6 : Hid (q6 = true) := Lib.hid (by
          have h := ha.out
          rw [HL.out.2, List.take_length] at h
          rw [← HQ2.out.1, h])
        clear ha
        go_wp2_with fail
        clear z6 z5
        go_loopw [9] (fun t wr => ∃ i : Nat, i ≤ al ∧ t = .int .i64 i ∧ Hid ((rs.take i).all (argB D) = true) ∧ IS W [.slice vp vn vc, .slice xp xn xc, .slice fp fn fc] [.int .i64 op, .int .i64 rg, .int .i64 ty, .int .i64 nn, .int .i64 fl, .slice ap al ac, .slice tp tl tc] wr) (fun t _ => al - (intOf t).toNat)
        case atStart => exact ⟨0, Nat.zero_le _, rfl, Lib.hid (by simp), HS.out⟩
        case round =>
          obtain ⟨j, hj, rfl, ha, hS⟩ := hrel
          have z5 := hS.2.1.get 5 _ rfl
          have HS := Lib.hid hS
          clear hS
          generalize wr = wo at *
          by_cases hlt : j < al
          · obtain ⟨a, rfl, hab, k0, k1, k2⟩ := row_A HX.out.1 j (by have := HL.out.1; omega)
            have HA := Lib.hid (all_take (argB D) rs j (by have := HL.out.1; omega) ha.out)
            have HT := Lib.hid (all_miss (argB D) rs j (by have := HL.out.1; omega))
            obtain ⟨v, ev⟩ : ∃ v, rs[j]'(by have := HL.out.1; omega) = v := ⟨_, rfl⟩
            simp only [ev] at HA HT k0 k1 k2
            have kO := HK.out.2.2.2.2 v
            obtain ⟨q, eq⟩ : ∃ q, argB D v = q := ⟨_, rfl⟩
            simp only [eq] at kO HA HT
            obtain ⟨kd, nv, bv⟩ := v
            simp only at k0 k1 k2 kO
            have HK0 := Lib.hid (And.intro k0 (And.intro k1 (And.intro k2 kO)))
            clear ev ha eq k0 k1 k2 kO
            go_upto_region 13 with fail
            go_cut [10] (fun s wx => s = .bool q ∧ IS W [.slice vp vn vc, .slice xp xn xc, .slice fp fn fc] [.int .i64 op, .int .i64 rg, .int .i64 ty, .int .i64 nn, .int .i64 fl, .slice (some a) al ac, .slice tp tl tc] wx)
            case first =>
              have HSS : ∀ w, IS W [.slice vp vn vc, .slice xp xn xc, .slice fp fn fc] [.int .i64 op, .int .i64 rg, .int .i64 ty, .int .i64 nn, .int .i64 fl, .slice (some a) al ac, .slice tp tl tc] w → (w.cell? ⟨W.heap.size, 0, none⟩ = some (.slice vp vn vc) ∧ w.cell? ⟨W.heap.size, 1, none⟩ = some (.slice xp xn xc) ∧ w.cell? ⟨W.heap.size, 2, none⟩ = some (.slice fp fn fc) ∧ w.cell? ⟨W.heap.size + 1, 5, none⟩ = some (.slice (some a) al ac) ∧ w.cell? (a.add (j * 3)) = some (.int .i64 kd) ∧ w.cell? ⟨(a.add (j * 3)).block, (a.add (j * 3)).off + 1, none⟩ = some (.int .i64 nv) ∧ w.cell? ⟨(a.add (j * 3)).block, (a.add (j * 3)).off + 2, none⟩ = some (.int .u64 bv)) := fun w h => ⟨h.1.get 0 _ rfl, h.1.get 1 _ rfl, h.1.get 2 _ rfl, h.2.1.get 5 _ rfl, (h.2.2.cell (p := a.add (j * 3)) (by rw [add_block]; exact hab)).trans HK0.out.1, (h.2.2.cell (p := ⟨(a.add (j * 3)).block, (a.add (j * 3)).off + 1, none⟩) (by dsimp only; rw [add_block]; exact hab)).trans HK0.out.2.1, (h.2.2.cell (p := ⟨(a.add (j * 3)).block, (a.add (j * 3)).off + 2, none⟩) (by dsimp only; rw [add_block]; exact hab)).trans HK0.out.2.2.1⟩
              clear z5
              obtain ⟨y0, y1, y2, z5, k0, k1, k2⟩ := HSS wo HS.out
              have kh : IS W [.slice vp vn vc, .slice xp xn xc, .slice fp fn fc] [.int .i64 op, .int .i64 rg, .int .i64 ty, .int .i64 nn, .int .i64 fl, .slice (some a) al ac, .slice tp tl tc] wo := HS.out
              have cO : ∀ w, ((w.cell? ⟨W.heap.size, 0, none⟩ = some (.slice vp vn vc) ∧ w.cell? ⟨W.heap.size, 1, none⟩ = some (.slice xp xn xc) ∧ w.cell? ⟨W.heap.size, 2, none⟩ = some (.slice fp fn fc) ∧ w.cell? ⟨W.heap.size + 1, 5, none⟩ = some (.slice (some a) al ac) ∧ w.cell? (a.add (j * 3)) = some (.int .i64 kd) ∧ w.cell? ⟨(a.add (j * 3)).block, (a.add (j * 3)).off + 1, none⟩ = some (.int .i64 nv) ∧ w.cell? ⟨(a.add (j * 3)).block, (a.add (j * 3)).off + 2, none⟩ = some (.int .u64 bv)) ∧ IS W [.slice vp vn vc, .slice xp xn xc, .slice fp fn fc] [.int .i64 op, .int .i64 rg, .int .i64 ty, .int .i64 nn, .int .i64 fl, .slice (some a) al ac, .slice tp tl tc] w) → Calls Tryz.prog 72 #[.agg #[.slice vp vn vc, .slice xp xn xc, .slice fp fn fc], .agg #[.int .i64 kd, .int .i64 nv, .int .u64 bv]] w fun e w' => e = .returned (.bool q) ∧ w'.cell? ⟨W.heap.size, 0, none⟩ = some (.slice vp vn vc) ∧ w'.cell? ⟨W.heap.size, 1, none⟩ = some (.slice xp xn xc) ∧ w'.cell? ⟨W.heap.size, 2, none⟩ = some (.slice fp fn fc) ∧ w'.cell? ⟨W.heap.size + 1, 5, none⟩ = some (.slice (some a) al ac) ∧ w'.cell? (a.add (j * 3)) = some (.int .i64 kd) ∧ w'.cell? ⟨(a.add (j * 3)).block, (a.add (j * 3)).off + 1, none⟩ = some (.int .i64 nv) ∧ w'.cell? ⟨(a.add (j * 3)).block, (a.add (j * 3)).off + 2, none⟩ = some (.int .u64 bv) ∧ IS W [.slice vp vn vc, .slice xp xn xc, .slice fp fn fc] [.int .i64 op, .int .i64 rg, .int .i64 ty, .int .i64 nn, .int .i64 fl, .slice (some a) al ac, .slice tp tl tc] w' := by
                rintro w ⟨k, kh⟩
                refine (HK0.out.2.2.2 w).mono ?_
                rintro e w' ⟨he, hb⟩
                have h2 := kh.later hb
                obtain ⟨s0, s1, s2, s3, s4, s5, s6⟩ := HSS w' h2
                exact ⟨he, s0, s1, s2, s3, s4, s5, s6, h2⟩
              clear HSS
              go_region_held3 (fun w' => w'.cell? ⟨W.heap.size, 0, none⟩ = some (.slice vp vn vc) ∧ w'.cell? ⟨W.heap.size, 1, none⟩ = some (.slice xp xn xc) ∧ w'.cell? ⟨W.heap.size, 2, none⟩ = some (.slice fp fn fc) ∧ w'.cell? ⟨W.heap.size + 1, 5, none⟩ = some (.slice (some a) al ac) ∧ w'.cell? (a.add (j * 3)) = some (.int .i64 kd) ∧ w'.cell? ⟨(a.add (j * 3)).block, (a.add (j * 3)).off + 1, none⟩ = some (.int .i64 nv) ∧ w'.cell? ⟨(a.add (j * 3)).block, (a.add (j * 3)).off + 2, none⟩ = some (.int .u64 bv))
                (((try dsimp only); (repeat' apply And.intro) <;> (first | (with_reducible assumption) | (rw [World.cell?_drew]; with_reducible assumption) | (simp <;> omega))))
                (first
                  | ((with_reducible refine' (cO _ ?pre).mono ?_)
                     case pre => (refine ⟨⟨?_, ?_, ?_, ?_, ?_, ?_, ?_⟩, ?_⟩ <;> (first | (with_reducible assumption) | (rw [World.cell?_drew]; with_reducible assumption) | (with_reducible apply IS.drew; with_reducible assumption) | (simp <;> omega) | omega))
                     rintro e wsa ⟨rfl, sa0, sa1, sa2, sa3, sa4, sa5, sa6, sah⟩))
              all_goals
                go_wp2_with fail
                go_meet
                exact ⟨rfl, sah⟩
            case rest =>
              obtain ⟨rfl, hS5⟩ := hcut
              generalize wc = w5 at *
              have HS5 := Lib.hid hS5
              clear hS5 z5
              cases q
              case false =>
                go_wp2_with fail
                go_ret
                exact ⟨ret_bool (by rw [← HQ2.out.2, HT.out (by first | rfl | trivial)]; simp), HS5.out.2.2⟩
              case true =>
                go_wp2_with fail
                exact ⟨⟨j + 1, by omega, by go_num, HA, HS5.out⟩, by simp [intOf]; omega⟩
          · obtain rfl : al = j := by omega
            have H7 : Hid (q7 = true) := Lib.hid (by
              have h := ha.out
              rw [HL.out.1, List.take_length] at h
              rw [← HQ2.out.2, h])
            clear ha
            go_wp2_with fail
            go_ret
            exact ⟨ret_bool (by rw [H6.out, H7.out]; rfl), HS.out.2.2⟩
  case true =>
    clear d4
    have HS := HS
    go_wp2_with fail
    clear z4 z0 d d2
    go_loopw [8] (fun t wr => ∃ i : Nat, i ≤ tl ∧ t = .int .i64 i ∧ Hid ((ts.take i).all tgB = true) ∧ wr = w4) (fun t _ => tl - (intOf t).toNat)
    case atStart => exact ⟨0, Nat.zero_le _, rfl, Lib.hid (by simp), rfl⟩
    case round =>
      obtain ⟨i, hi, rfl, ha, rfl⟩ := hrel
      by_cases hlt : i < tl
      · obtain ⟨a, rfl, hab, k0⟩ := row_I HX.out.2 i (by have := HL.out.2; omega)
        have k0 := (HS.out.2.2.cell (p := a.add i) (by rw [add_block]; exact hab)).trans k0
        have HA := Lib.hid (all_take tgB ts i (by have := HL.out.2; omega) ha.out)
        have HT := Lib.hid (all_miss tgB ts i (by have := HL.out.2; omega))
        obtain ⟨x, ex⟩ : ∃ x, ts[i]'(by have := HL.out.2; omega) = x := ⟨_, rfl⟩
        simp only [ex] at HA HT k0
        clear ex ha
        by_cases h0 : x < 0
        · have d0 : decide (x < (0 : Int)) = true := by simp [h0]
          have HF := Lib.hid (HT.out (by unfold tgB; simp; omega))
          clear h0
          go_wp2_with fail
          go_ret
          exact ⟨ret_bool (by rw [← HQ2.out.1, HF.out]; simp), HS.out.2.2⟩
        · have d0 : decide (x < (0 : Int)) = false := by simp; omega
          by_cases h1 : 999 < x
          · have d1 : decide ((999 : Int) < x) = true := by simp [h1]
            have HF := Lib.hid (HT.out (by unfold tgB; simp; omega))
            clear h0 h1
            go_wp2_with fail
            go_ret
            exact ⟨ret_bool (by rw [← HQ2.out.1, HF.out]; simp), HS.out.2.2⟩
          · have d1 : decide ((999 : Int) < x) = false := by simp; omega
            have HF := Lib.hid (HA.out.trans (show tgB x = true by unfold tgB; simp; omega))
            clear h0 h1
            go_wp2_with fail
            exact ⟨⟨i + 1, by omega, by go_num, HF, by first | rfl | trivial⟩, by simp [intOf]; omega⟩
      · obtain rfl : tl = i := by omega
        have H6 : Hid (q6 = true) := Lib.hid (by
          have h := ha.out
          rw [HL.out.2, List.take_length] at h
          rw [← HQ2.out.1, h])
        clear ha
        go_wp2_with fail
        clear z6 z5
        go_loopw [9] (fun t wr => ∃ i : Nat, i ≤ al ∧ t = .int .i64 i ∧ Hid ((rs.take i).all (argB D) = true) ∧ IS W [.slice vp vn vc, .slice xp xn xc, .slice fp fn fc] [.int .i64 op, .int .i64 rg, .int .i64 ty, .int .i64 nn, .int .i64 fl, .slice ap al ac, .slice tp tl tc] wr) (fun t _ => al - (intOf t).toNat)
        case atStart => exact ⟨0, Nat.zero_le _, rfl, Lib.hid (by simp), HS.out⟩
        case round =>
          obtain ⟨j, hj, rfl, ha, hS⟩ := hrel
          have z5 := hS.2.1.get 5 _ rfl
          have HS := Lib.hid hS
          clear hS
          generalize wr = wo at *
          by_cases hlt : j < al
          · obtain ⟨a, rfl, hab, k0, k1, k2⟩ := row_A HX.out.1 j (by have := HL.out.1; omega)
            have HA := Lib.hid (all_take (argB D) rs j (by have := HL.out.1; omega) ha.out)
            have HT := Lib.hid (all_miss (argB D) rs j (by have := HL.out.1; omega))
            obtain ⟨v, ev⟩ : ∃ v, rs[j]'(by have := HL.out.1; omega) = v := ⟨_, rfl⟩
            simp only [ev] at HA HT k0 k1 k2
            have kO := HK.out.2.2.2.2 v
            obtain ⟨q, eq⟩ : ∃ q, argB D v = q := ⟨_, rfl⟩
            simp only [eq] at kO HA HT
            obtain ⟨kd, nv, bv⟩ := v
            simp only at k0 k1 k2 kO
            have HK0 := Lib.hid (And.intro k0 (And.intro k1 (And.intro k2 kO)))
            clear ev ha eq k0 k1 k2 kO
            go_upto_region 13 with fail
            go_cut [10] (fun s wx => s = .bool q ∧ IS W [.slice vp vn vc, .slice xp xn xc, .slice fp fn fc] [.int .i64 op, .int .i64 rg, .int .i64 ty, .int .i64 nn, .int .i64 fl, .slice (some a) al ac, .slice tp tl tc] wx)
            case first =>
              have HSS : ∀ w, IS W [.slice vp vn vc, .slice xp xn xc, .slice fp fn fc] [.int .i64 op, .int .i64 rg, .int .i64 ty, .int .i64 nn, .int .i64 fl, .slice (some a) al ac, .slice tp tl tc] w → (w.cell? ⟨W.heap.size, 0, none⟩ = some (.slice vp vn vc) ∧ w.cell? ⟨W.heap.size, 1, none⟩ = some (.slice xp xn xc) ∧ w.cell? ⟨W.heap.size, 2, none⟩ = some (.slice fp fn fc) ∧ w.cell? ⟨W.heap.size + 1, 5, none⟩ = some (.slice (some a) al ac) ∧ w.cell? (a.add (j * 3)) = some (.int .i64 kd) ∧ w.cell? ⟨(a.add (j * 3)).block, (a.add (j * 3)).off + 1, none⟩ = some (.int .i64 nv) ∧ w.cell? ⟨(a.add (j * 3)).block, (a.add (j * 3)).off + 2, none⟩ = some (.int .u64 bv)) := fun w h => ⟨h.1.get 0 _ rfl, h.1.get 1 _ rfl, h.1.get 2 _ rfl, h.2.1.get 5 _ rfl, (h.2.2.cell (p := a.add (j * 3)) (by rw [add_block]; exact hab)).trans HK0.out.1, (h.2.2.cell (p := ⟨(a.add (j * 3)).block, (a.add (j * 3)).off + 1, none⟩) (by dsimp only; rw [add_block]; exact hab)).trans HK0.out.2.1, (h.2.2.cell (p := ⟨(a.add (j * 3)).block, (a.add (j * 3)).off + 2, none⟩) (by dsimp only; rw [add_block]; exact hab)).trans HK0.out.2.2.1⟩
              clear z5
              obtain ⟨y0, y1, y2, z5, k0, k1, k2⟩ := HSS wo HS.out
              have kh : IS W [.slice vp vn vc, .slice xp xn xc, .slice fp fn fc] [.int .i64 op, .int .i64 rg, .int .i64 ty, .int .i64 nn, .int .i64 fl, .slice (some a) al ac, .slice tp tl tc] wo := HS.out
              have cO : ∀ w, ((w.cell? ⟨W.heap.size, 0, none⟩ = some (.slice vp vn vc) ∧ w.cell? ⟨W.heap.size, 1, none⟩ = some (.slice xp xn xc) ∧ w.cell? ⟨W.heap.size, 2, none⟩ = some (.slice fp fn fc) ∧ w.cell? ⟨W.heap.size + 1, 5, none⟩ = some (.slice (some a) al ac) ∧ w.cell? (a.add (j * 3)) = some (.int .i64 kd) ∧ w.cell? ⟨(a.add (j * 3)).block, (a.add (j * 3)).off + 1, none⟩ = some (.int .i64 nv) ∧ w.cell? ⟨(a.add (j * 3)).block, (a.add (j * 3)).off + 2, none⟩ = some (.int .u64 bv)) ∧ IS W [.slice vp vn vc, .slice xp xn xc, .slice fp fn fc] [.int .i64 op, .int .i64 rg, .int .i64 ty, .int .i64 nn, .int .i64 fl, .slice (some a) al ac, .slice tp tl tc] w) → Calls Tryz.prog 72 #[.agg #[.slice vp vn vc, .slice xp xn xc, .slice fp fn fc], .agg #[.int .i64 kd, .int .i64 nv, .int .u64 bv]] w fun e w' => e = .returned (.bool q) ∧ w'.cell? ⟨W.heap.size, 0, none⟩ = some (.slice vp vn vc) ∧ w'.cell? ⟨W.heap.size, 1, none⟩ = some (.slice xp xn xc) ∧ w'.cell? ⟨W.heap.size, 2, none⟩ = some (.slice fp fn fc) ∧ w'.cell? ⟨W.heap.size + 1, 5, none⟩ = some (.slice (some a) al ac) ∧ w'.cell? (a.add (j * 3)) = some (.int .i64 kd) ∧ w'.cell? ⟨(a.add (j * 3)).block, (a.add (j * 3)).off + 1, none⟩ = some (.int .i64 nv) ∧ w'.cell? ⟨(a.add (j * 3)).block, (a.add (j * 3)).off + 2, none⟩ = some (.int .u64 bv) ∧ IS W [.slice vp vn vc, .slice xp xn xc, .slice fp fn fc] [.int .i64 op, .int .i64 rg, .int .i64 ty, .int .i64 nn, .int .i64 fl, .slice (some a) al ac, .slice tp tl tc] w' := by
                rintro w ⟨k, kh⟩
                refine (HK0.out.2.2.2 w).mono ?_
                rintro e w' ⟨he, hb⟩
                have h2 := kh.later hb
                obtain ⟨s0, s1, s2, s3, s4, s5, s6⟩ := HSS w' h2
                exact ⟨he, s0, s1, s2, s3, s4, s5, s6, h2⟩
              clear HSS
              go_region_held3 (fun w' => w'.cell? ⟨W.heap.size, 0, none⟩ = some (.slice vp vn vc) ∧ w'.cell? ⟨W.heap.size, 1, none⟩ = some (.slice xp xn xc) ∧ w'.cell? ⟨W.heap.size, 2, none⟩ = some (.slice fp fn fc) ∧ w'.cell? ⟨W.heap.size + 1, 5, none⟩ = some (.slice (some a) al ac) ∧ w'.cell? (a.add (j * 3)) = some (.int .i64 kd) ∧ w'.cell? ⟨(a.add (j * 3)).block, (a.add (j * 3)).off + 1, none⟩ = some (.int .i64 nv) ∧ w'.cell? ⟨(a.add (j * 3)).block, (a.add (j * 3)).off + 2, none⟩ = some (.int .u64 bv))
                (((try dsimp only); (repeat' apply And.intro) <;> (first | (with_reducible assumption) | (rw [World.cell?_drew]; with_reducible assumption) | (simp <;> omega))))
                (first
                  | ((with_reducible refine' (cO _ ?pre).mono ?_)
                     case pre => (refine ⟨⟨?_, ?_, ?_, ?_, ?_, ?_, ?_⟩, ?_⟩ <;> (first | (with_reducible assumption) | (rw [World.cell?_drew]; with_reducible assumption) | (with_reducible apply IS.drew; with_reducible assumption) | (simp <;> omega) | omega))
                     rintro e wsa ⟨rfl, sa0, sa1, sa2, sa3, sa4, sa5, sa6, sah⟩))
              all_goals
                go_wp2_with fail
                go_meet
                exact ⟨rfl, sah⟩
            case rest =>
              obtain ⟨rfl, hS5⟩ := hcut
              generalize wc = w5 at *
              have HS5 := Lib.hid hS5
              clear hS5 z5
              cases q
              case false =>
                go_wp2_with fail
                go_ret
                exact ⟨ret_bool (by rw [← HQ2.out.2, HT.out (by first | rfl | trivial)]; simp), HS5.out.2.2⟩
              case true =>
                go_wp2_with fail
                exact ⟨⟨j + 1, by omega, by go_num, HA, HS5.out⟩, by simp [intOf]; omega⟩
          · obtain rfl : al = j := by omega
            have H7 : Hid (q7 = true) := Lib.hid (by
              have h := ha.out
              rw [HL.out.1, List.take_length] at h
              rw [← HQ2.out.2, h])
            clear ha
            go_wp2_with fail
            go_ret
            exact ⟨ret_bool (by rw [H6.out, H7.out]; rfl), HS.out.2.2⟩
end Go.Proofs.YtmampoakdjjbiaaGreatDoor
