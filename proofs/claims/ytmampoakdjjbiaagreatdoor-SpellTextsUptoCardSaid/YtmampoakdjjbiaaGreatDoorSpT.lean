/- The document's Sayable. -/
import Derived.Test.YtmampoakdjjbiaaGreatDoorSpS
namespace Go.Proofs.YtmampoakdjjbiaaGreatDoor
open Go.RowKit Go.Maps
set_option linter.unusedVariables false
set_option linter.unusedSimpArgs false

def rsayB (m : PMod) : Bool := (m.vs.all fun v => wdB (byt v.nm) && decide (0 ≤ v.size)) && (m.xs.all fun x => headB wdB x.nm x.ps x.rt) && m.fs.all fun f => headB wdB f.nm f.ps f.rt && f.bs.all fun c => c.all (rinsB m)
theorem head_ty {wd : Tx → Bool} {nm : ByteArray} {ps : List Int} {rt : Int} (h : headB wd nm ps rt = true) : tyB rt = true := by
  unfold headB at h
  rw [Bool.and_eq_true] at h
  exact h.2
theorem rsay_eq (m : PMod) : rsayB m = sayB wdB m := by
  unfold rsayB sayB
  by_cases hx : (m.xs.all fun x => headB wdB x.nm x.ps x.rt) = true
  · by_cases hf : (m.fs.all fun f => headB wdB f.nm f.ps f.rt) = true
    · have hi : ∀ x, rinsB m x = insB m x := fun x => by
        unfold rinsB
        cases h : insB m x
        · rfl
        · by_cases e : x.op = 30
          · have hc : calR m.xs m.fs x.n = some x.ty := by
              unfold insB hasTyB at h
              simp only [e, Bool.and_eq_true, decide_eq_true_eq] at h
              have := h.1.1.1.1.1.2
              simpa using this
            have ht : tyB x.ty = true := by
              unfold calR at hc
              by_cases h0 : 0 ≤ x.n
              · rw [if_pos h0] at hc
                cases e2 : m.fs[x.n.toNat]? with
                | none => rw [e2] at hc; cases hc
                | some f =>
                  rw [e2] at hc
                  injection hc with hc
                  rw [← hc]
                  exact head_ty (List.all_eq_true.1 hf _ (List.mem_of_getElem? e2))
              · rw [if_neg h0] at hc
                cases e2 : m.xs[(-1 - x.n).toNat]? with
                | none => rw [e2] at hc; cases hc
                | some f =>
                  rw [e2] at hc
                  injection hc with hc
                  rw [← hc]
                  exact head_ty (List.all_eq_true.1 hx _ (List.mem_of_getElem? e2))
            rw [ht]
            simp
          · simp [e]
      have : rinsB m = insB m := funext hi
      rw [this]
      rfl
    · have h1 : (m.fs.all fun f => headB wdB f.nm f.ps f.rt && f.bs.all fun c => c.all (rinsB m)) = false := by
        rw [Bool.eq_false_iff]
        intro k
        exact hf (List.all_eq_true.2 fun f hm => by
          have := List.all_eq_true.1 k f hm
          rw [Bool.and_eq_true] at this
          exact this.1)
      have h2 : m.fs.all (fnB wdB m) = false := by
        rw [Bool.eq_false_iff]
        intro k
        exact hf (List.all_eq_true.2 fun f hm => by
          have := List.all_eq_true.1 k f hm
          unfold fnB at this
          rw [Bool.and_eq_true] at this
          exact this.1)
      rw [h1, h2]
  · rw [Bool.eq_false_iff.2 hx]
    simp
theorem all_flat {α β : Type} (P : β → Bool) (g : α → List β) (l : List α) : (l.flatMap g).all P = l.all fun a => (g a).all P := by
  induction l with
  | nil => rfl
  | cons a l ih => rw [List.flatMap_cons, List.all_append, ih]; rfl
theorem located_flat2 (bs : List LB) : (located bs).flatten = (bs.flatMap LB.code).map Prod.fst := by
  unfold located
  induction bs with
  | nil => rfl
  | cons b bs ih => rw [List.map_cons, List.flatten_cons, ih, List.flatMap_cons, List.map_append]
theorem OneS.drewN {W w : World} {mv : List Value} (h : OneS W mv w) (n : Nat) : OneS W mv (w.drewN n) := h.later (below_drewN' (Below.refl _ _) n)
theorem OneS.drew {W w : World} {mv : List Value} (h : OneS W mv w) : OneS W mv w.drew := h.later (below_drew (Below.refl _ _))
def TwoB (W : World) (mv : List Value) (w5 w : World) : Prop := OneS W mv w ∧ Below w5.heap.size w5 w
theorem TwoB.later {W w5 w w' : World} {mv : List Value} (h : TwoB W mv w5 w) (hb : Below w.heap.size w w') : TwoB W mv w5 w' := ⟨h.1.later hb, h.2.trans (hb.mono h.2.size)⟩
theorem TwoB.drew {W w5 w : World} {mv : List Value} (h : TwoB W mv w5 w) : TwoB W mv w5 w.drew := h.later (below_drew (Below.refl _ _))
section
variable (m : LMod) (W : World) (hm : ModIn W.heap.size W m) (hw : MWf m)
include hm hw
def PF (D : PMod) (f : LFn) : Bool := headB wdB f.nm f.ps f.rt && (f.bs.flatMap LB.code).all fun x => rinsB D (insD x)
omit hm in
theorem fs_small (f : LFn) (hf : f ∈ m.fs) : fnZ (fnD f) ≤ 1048576 := by
  have h1 := fnsZ_mem (List.mem_map_of_mem (f := fnD) hf)
  have h2 : m.vs.length + ((m.xs.map extD).map extZ).sum + ((m.fs.map fnD).map fnZ).sum ≤ 1048576 := hw.z
  have h3 : fnZ (fnD f) ≤ ((m.fs.map fnD).map fnZ).sum := h1
  omega
set_option maxRecDepth 100000 in
theorem code1_any (f : LFn) (hf : f ∈ m.fs) (w : World) (hS : OneS W (modC m) w) :
    Calls Tryz.prog 30 #[.agg #[.string f.nm, .slice f.pp f.pn f.pc, .int .i64 f.rt, .slice f.bp f.bn f.bc]] w fun e w' => ∃ p cap vp, e = .returned (.tuple #[.slice p (f.bs.flatMap LB.code).length cap, vp]) ∧ Below w.heap.size w w' ∧
      ∀ j (hj : j < (f.bs.flatMap LB.code).length), ∃ a, p = some a ∧ ∀ w2, Below w'.heap.size w' w2 → a.block < w'.heap.size ∧ InsAt w2 (a.add (j * 7)) (f.bs.flatMap LB.code)[j].1 := by
  have hfi : FnIn w.heap.size w f := lasts_Fn _ _ _ _ _ hS.2 hS.2.size (hm.2.2.2.2.2.2 f hf)
  have hz := fs_small m hw f hf
  have hcl := cnt_located f
  unfold cnt at hcl
  refine (Code_any w f.nm f.pp f.pn f.pc f.rt f.bp f.bn f.bc (located f.bs) (blocksAt_in hfi.2) (by omega)).mono ?_
  rintro e w' ⟨vl, vp, rfl, hb, hown, -⟩
  have hL : (located f.bs).flatten = (f.bs.flatMap LB.code).map Prod.fst := located_flat2 f.bs
  rw [hL] at hown
  obtain ⟨p, cap, rfl, h1, h2, hrow⟩ := codeAt_own hown
  rw [List.length_map]
  refine ⟨p, cap, vp, rfl, hb, fun j hj => ?_⟩
  obtain ⟨a, ha, hab, hat⟩ := hrow j (by rw [List.length_map]; exact hj)
  rw [List.getElem_map] at hat
  exact ⟨a, ha, fun w2 hb2 => ⟨hab, hat.below hb2 (by rw [add_block]; exact hab)⟩⟩
set_option maxRecDepth 100000 in
set_option maxHeartbeats 4000000 in
theorem rSayable_any : Calls Tryz.prog 9 #[.agg (modC m).toArray] W (Ans (.bool (sayB wdB (modD m))) W) := by
  rw [← rsay_eq]
  have hb1 : Below W.heap.size W (W.alloc (.cells (modC m).toArray 26)) := (Below.refl _ _).alloc (Nat.le_refl _) _
  have hS1 : OneS W (modC m) (W.alloc (.cells (modC m).toArray 26)) := ⟨Box.new W rfl _ _, hb1⟩
  have hall : rsayB (modD m) = ((m.vs.all fun v => wdB (byt v.nm) && decide (0 ≤ v.size)) && (m.xs.all fun x => headB wdB x.nm x.ps x.rt) && m.fs.all (PF (modD m))) := by
    unfold rsayB
    have h1 : (modD m).fs = m.fs.map fnD := rfl
    have h2 : (modD m).xs = m.xs.map extD := rfl
    rw [h1, h2, List.all_map, List.all_map]
    congr 1
    refine congrArg (fun P => m.fs.all P) (funext fun f => ?_)
    show (headB wdB f.nm f.ps f.rt && ((f.bs.map blkD).all fun c => c.all (rinsB (modD m)))) = _
    unfold PF
    rw [all_flat, List.all_map]
    congr 2
    funext c
    show (blkD c).all (rinsB (modD m)) = _
    unfold blkD
    rw [List.all_map]
    rfl
  rw [hall]
  clear hall hb1
  have k1 : ∀ i (hi : i < m.vs.length) w, Calls Tryz.prog 28 #[.string m.vs[i].nm] w fun e w' => e = .returned (.bool (wdB (byt m.vs[i].nm))) ∧ w' = w := fun i hi w => rword1_any _ (hw.vs _ (List.getElem_mem hi)) w
  have k2 : ∀ i (hi : i < m.xs.length) w, OneS W (modC m) w → Calls Tryz.prog 29 #[.string m.xs[i].nm, .slice m.xs[i].pp m.xs[i].pn m.xs[i].pc, .int .i64 m.xs[i].rt] w fun e w' => e = .returned (.bool (headB wdB m.xs[i].nm m.xs[i].ps m.xs[i].rt)) ∧ w' = w := fun i hi w hS =>
    rHead_any _ _ _ _ _ _ (hw.xs _ (List.getElem_mem hi)) w (ListIn.lasts lasts_NoMem (hm.2.1.2.2.2.2 _ (List.getElem_mem hi)) hS.2 hS.2.size)
  have k3 : ∀ i (hi : i < m.fs.length) w, OneS W (modC m) w → Calls Tryz.prog 29 #[.string m.fs[i].nm, .slice m.fs[i].pp m.fs[i].pn m.fs[i].pc, .int .i64 m.fs[i].rt] w fun e w' => e = .returned (.bool (headB wdB m.fs[i].nm m.fs[i].ps m.fs[i].rt)) ∧ w' = w := fun i hi w hS =>
    rHead_any _ _ _ _ _ _ (hw.fs _ (List.getElem_mem hi)) w (ListIn.lasts lasts_NoMem (hm.2.2.2.2.2.2 _ (List.getElem_mem hi)).1 hS.2 hS.2.size)
  have k4 : ∀ i (hi : i < m.fs.length) (XS : List LI), m.fs[i].bs.flatMap LB.code = XS → ∀ w, OneS W (modC m) w → Calls Tryz.prog 30 #[.agg #[.string m.fs[i].nm, .slice m.fs[i].pp m.fs[i].pn m.fs[i].pc, .int .i64 m.fs[i].rt, .slice m.fs[i].bp m.fs[i].bn m.fs[i].bc]] w fun e w' => ∃ p cap vp, e = .returned (.tuple #[.slice p XS.length cap, vp]) ∧ Below w.heap.size w w' ∧
      ∀ j (hj : j < XS.length), ∃ a, p = some a ∧ ∀ w2, Below w'.heap.size w' w2 → a.block < w'.heap.size ∧ InsAt w2 (a.add (j * 7)) XS[j].1 := fun i hi XS e w hS => by
    subst e
    exact code1_any m W hm hw m.fs[i] (List.getElem_mem hi) w hS
  have k5 : ∀ i (hi : i < m.fs.length) (XS : List LI), m.fs[i].bs.flatMap LB.code = XS → ∀ j (hj : j < XS.length) w, OneS W (modC m) w → Calls Tryz.prog 31 #[.agg (modC m).toArray, .agg (liC XS[j]).toArray] w (Ans (.bool (rinsB (modD m) (insD XS[j]))) w) := fun i hi XS e j hj w hS => by
    obtain ⟨c, hc, hx⟩ := List.mem_flatMap.1 (show XS[j] ∈ m.fs[i].bs.flatMap LB.code by rw [e]; exact List.getElem_mem hj)
    have hn := hw.ns _ (List.getElem_mem hi) c hc _ hx
    have hin := (hm.2.2.2.2.2.2 _ (List.getElem_mem hi)).2.2.2.2.2 c hc
    exact rInstr_any m _ w (lasts_Mod _ _ _ _ _ hS.2 hS.2.size hm) (lasts_Ins _ _ _ _ _ hS.2 hS.2.size (hin.2.2.2.2 _ hx)) hn.1 hn.2
  have HM := Lib.hid hm
  obtain ⟨D, eD⟩ : ∃ D, modD m = D := ⟨_, rfl⟩
  simp only [eD] at k5 ⊢
  obtain ⟨vp, vn, vc, vs, xp, xn, xc, xs, fp, fn, fc, fs⟩ := m
  simp only at k1 k2 k3 k4 k5 HM ⊢
  have HM : Hid (ListIn varC NoMem W.heap.size W vp vn vc vs ∧ ListIn extC ExtIn W.heap.size W xp xn xc xs ∧ ListIn fnC FnIn W.heap.size W fp fn fc fs) := HM
  obtain ⟨q1, e1⟩ : ∃ q, (vs.all fun v => wdB (byt v.nm) && decide (0 ≤ v.size)) = q := ⟨_, rfl⟩
  obtain ⟨q2, e2⟩ : ∃ q, (xs.all fun x => headB wdB x.nm x.ps x.rt) = q := ⟨_, rfl⟩
  obtain ⟨q3, e3⟩ : ∃ q, fs.all (PF D) = q := ⟨_, rfl⟩
  rw [e1, e2, e3]
  have HQ := Lib.hid (And.intro e1 (And.intro e2 e3))
  have hvn : vn = vs.length := HM.out.1.1
  have hxn : xn = xs.length := HM.out.2.1.1
  have hfn : fn = fs.length := HM.out.2.2.1
  have hv2 : vn ≤ 9223372036854775807 := by have h1 := HM.out.1.2.1; have h2 := HM.out.1.2.2.1; unfold maxLen at h2; omega
  have hx2 : xn ≤ 9223372036854775807 := by have h1 := HM.out.2.1.2.1; have h2 := HM.out.2.1.2.2.1; unfold maxLen at h2; omega
  have hf2 : fn ≤ 9223372036854775807 := by have h1 := HM.out.2.2.2.1; have h2 := HM.out.2.2.2.2.1; unfold maxLen at h2; omega
  have hXl : ∀ i (hi : i < fs.length), (fs[i].bs.flatMap LB.code).length ≤ 1048576 := fun i hi => by
    have hz := fs_small _ hw fs[i] (List.getElem_mem hi)
    have hcl := cnt_located fs[i]
    unfold cnt at hcl
    rw [located_flat2, List.length_map] at hcl
    omega
  have HL := Lib.hid (And.intro hvn (And.intro hxn (And.intro hfn hXl)))
  have HS : Hid (OneS W [.slice vp vn vc, .slice xp xn xc, .slice fp fn fc] (W.alloc (.cells #[.slice vp vn vc, .slice xp xn xc, .slice fp fn fc] 26))) := Lib.hid hS1
  have k2 : ∀ i (hi : i < xs.length) w, OneS W [.slice vp vn vc, .slice xp xn xc, .slice fp fn fc] w → Calls Tryz.prog 29 #[.string xs[i].nm, .slice xs[i].pp xs[i].pn xs[i].pc, .int .i64 xs[i].rt] w fun e w' => e = .returned (.bool (headB wdB xs[i].nm xs[i].ps xs[i].rt)) ∧ w' = w := k2
  have k3 : ∀ i (hi : i < fs.length) w, OneS W [.slice vp vn vc, .slice xp xn xc, .slice fp fn fc] w → Calls Tryz.prog 29 #[.string fs[i].nm, .slice fs[i].pp fs[i].pn fs[i].pc, .int .i64 fs[i].rt] w fun e w' => e = .returned (.bool (headB wdB fs[i].nm fs[i].ps fs[i].rt)) ∧ w' = w := k3
  have k5 : ∀ i (hi : i < fs.length) (XS : List LI), fs[i].bs.flatMap LB.code = XS → ∀ j (hj : j < XS.length) w, OneS W [.slice vp vn vc, .slice xp xn xc, .slice fp fn fc] w → Calls Tryz.prog 31 #[.agg #[.slice vp vn vc, .slice xp xn xc, .slice fp fn fc], .agg (liC XS[j]).toArray] w (Ans (.bool (rinsB D (insD XS[j]))) w) := k5
  have HK := Lib.hid (And.intro k1 (And.intro k2 (And.intro k3 (And.intro k4 k5))))
  show Calls Tryz.prog 9 #[.agg #[.slice vp vn vc, .slice xp xn xc, .slice fp fn fc]] W _
  clear k1 k2 k3 k4 k5 e1 e2 e3 hm hw hS1 hvn hxn hfn hXl eD
  go_enter Tryz.func9, Tryz.ntmps9
  go_wp2_with fail
  obtain ⟨w1, ew1⟩ : ∃ w1, (W.alloc (.cells #[.slice vp vn vc, .slice xp xn xc, .slice fp fn fc] 26)) = w1 := ⟨_, rfl⟩
  rw [ew1] at HS ⊢
  clear ew1
  go_loopw [3] (fun t wr => ∃ i : Nat, i ≤ vn ∧ t = .int .i64 i ∧ Hid ((vs.take i).all (fun v => wdB (byt v.nm) && decide (0 ≤ v.size)) = true) ∧ wr = w1) (fun t _ => vn - (intOf t).toNat)
  case atStart => exact ⟨0, Nat.zero_le _, rfl, Lib.hid (by simp), rfl⟩
  case round =>
    obtain ⟨i, hi, rfl, ha, rfl⟩ := hrel
    have y0 := HS.out.1.get 0 _ rfl
    by_cases hlt : i < vn
    · obtain ⟨a, rfl, hab, c0, c1⟩ := row_V HM.out.1 i (by have := HL.out.1; omega)
      have c0 := (HS.out.2.cell (p := a.add (i * 2)) (by rw [add_block]; exact hab)).trans c0
      have c1 := (HS.out.2.cell (p := ⟨(a.add (i * 2)).block, (a.add (i * 2)).off + 1, none⟩) (by dsimp only; rw [add_block]; exact hab)).trans c1
      have cw := HK.out.1 i (by have := HL.out.1; omega) wr
      have HA := Lib.hid (all_take (fun v : PVar => wdB (byt v.nm) && decide (0 ≤ v.size)) vs i (by have := HL.out.1; omega) ha.out)
      have HT := Lib.hid (all_miss (fun v : PVar => wdB (byt v.nm) && decide (0 ≤ v.size)) vs i (by have := HL.out.1; omega))
      obtain ⟨v, ev⟩ : ∃ v, vs[i]'(by have := HL.out.1; omega) = v := ⟨_, rfl⟩
      simp only [ev] at HA HT c0 c1 cw
      obtain ⟨nm, sz⟩ := v
      simp only at HA HT c0 c1 cw
      obtain ⟨qw, eqw⟩ : ∃ q, wdB (byt nm) = q := ⟨_, rfl⟩
      simp only [eqw] at HA HT cw
      clear ev ha eqw
      go_wp2_with fail
      refine cw.mono ?_
      rintro e w2 ⟨rfl, rfl⟩
      cases qw
      case false =>
        go_wp2_with fail
        go_ret
        exact ⟨ret_bool (by rw [← HQ.out.1, HT.out (by simp)]; simp), HS.out.2⟩
      by_cases h0 : sz < 0
      · have d0 : decide (sz < (0 : Int)) = true := by simp [h0]
        have HF := Lib.hid (HT.out (by simp; omega))
        clear h0
        go_wp2_with fail
        go_ret
        exact ⟨ret_bool (by rw [← HQ.out.1, HF.out]; simp), HS.out.2⟩
      · have d0 : decide (sz < (0 : Int)) = false := by simp; omega
        have HF := Lib.hid (HA.out.trans (show (true && decide (0 ≤ sz)) = true by simp; omega))
        clear h0
        go_wp2_with fail
        exact ⟨⟨i + 1, by omega, by go_num, HF, by first | rfl | trivial⟩, by simp [intOf]; omega⟩
    · obtain rfl : vn = i := by omega
      have H1 : Hid (q1 = true) := Lib.hid (by
        have h := ha.out
        rw [HL.out.1, List.take_length] at h
        rw [← HQ.out.1, h])
      clear ha
      go_wp2_with fail
      clear y0
      go_loopw [5] (fun t wr => ∃ i : Nat, i ≤ xn ∧ t = .int .i64 i ∧ Hid ((xs.take i).all (fun x => headB wdB x.nm x.ps x.rt) = true) ∧ OneS W [.slice vp vn vc, .slice xp xn xc, .slice fp fn fc] wr) (fun t _ => xn - (intOf t).toNat)
      case atStart => exact ⟨0, Nat.zero_le _, rfl, Lib.hid (by simp), HS.out⟩
      case round =>
        obtain ⟨i, hi, rfl, ha, hS⟩ := hrel
        generalize wr = wo at *
        have y1 := hS.1.get 1 _ rfl
        have HS := Lib.hid hS
        clear hS
        by_cases hlt : i < xn
        · obtain ⟨a, rfl, hab, c0, c1, c2⟩ := row_X HM.out.2.1 i (by have := HL.out.2.1; omega)
          have c0 := (HS.out.2.cell (p := a.add (i * 3)) (by rw [add_block]; exact hab)).trans c0
          have c1 := (HS.out.2.cell (p := ⟨(a.add (i * 3)).block, (a.add (i * 3)).off + 1, none⟩) (by dsimp only; rw [add_block]; exact hab)).trans c1
          have c2 := (HS.out.2.cell (p := ⟨(a.add (i * 3)).block, (a.add (i * 3)).off + 2, none⟩) (by dsimp only; rw [add_block]; exact hab)).trans c2
          have cw : ∀ n, Calls Tryz.prog 29 _ (wo.drewN n) _ := fun n => HK.out.2.1 i (by have := HL.out.2.1; omega) (wo.drewN n) (HS.out.drewN n)
          have HA := Lib.hid (all_take (fun x : LExt => headB wdB x.nm x.ps x.rt) xs i (by have := HL.out.2.1; omega) ha.out)
          have HT := Lib.hid (all_miss (fun x : LExt => headB wdB x.nm x.ps x.rt) xs i (by have := HL.out.2.1; omega))
          obtain ⟨x, ex⟩ : ∃ x, xs[i]'(by have := HL.out.2.1; omega) = x := ⟨_, rfl⟩
          simp only [ex] at HA HT c0 c1 c2 cw
          obtain ⟨nm, pp, pn, pc, ps, rt⟩ := x
          simp only at HA HT c0 c1 c2 cw
          obtain ⟨qw, eqw⟩ : ∃ q, headB wdB nm ps rt = q := ⟨_, rfl⟩
          simp only [eqw] at HA HT cw
          clear ex ha eqw
          go_wp2_with fail
          go_quiet (exact Calls.quiet_of_same (cw _))
          all_goals
            generalize hz : World.drewN wo _ = wd at *
            have HS2 : Hid (OneS W [.slice vp vn vc, .slice (some a) xn xc, .slice fp fn fc] wd) := Lib.hid (by rw [← hz]; exact HS.out.drewN _)
            clear hz cw c0 c1 c2 y1
            cases qw
            case false =>
              go_wp2_with fail
              go_ret
              exact ⟨ret_bool (by rw [← HQ.out.2.1, HT.out (by first | rfl | trivial)]; simp), HS2.out.2⟩
            case true =>
              go_wp2_with fail
              exact ⟨⟨i + 1, by omega, by go_num, HA, HS2.out⟩, by simp [intOf]; omega⟩
        · obtain rfl : xn = i := by omega
          have H2 : Hid (q2 = true) := Lib.hid (by
            have h := ha.out
            rw [HL.out.2.1, List.take_length] at h
            rw [← HQ.out.2.1, h])
          clear ha
          go_wp2_with fail
          clear y1
          go_loopw [7] (fun t wr => ∃ i : Nat, i ≤ fn ∧ t = .int .i64 i ∧ Hid ((fs.take i).all (PF D) = true) ∧ OneS W [.slice vp vn vc, .slice xp xn xc, .slice fp fn fc] wr) (fun t _ => fn - (intOf t).toNat)
          case atStart => exact ⟨0, Nat.zero_le _, rfl, Lib.hid (by simp), HS.out⟩
          case round =>
            obtain ⟨i, hi, rfl, ha, hS⟩ := hrel
            generalize wr = wq at *
            have y2 := hS.1.get 2 _ rfl
            have HS := Lib.hid hS
            clear hS
            by_cases hlt : i < fn
            · obtain ⟨a, rfl, hab, c0, c1, c2, c3⟩ := row_F HM.out.2.2 i (by have := HL.out.2.2.1; omega)
              have cw : ∀ n, Calls Tryz.prog 29 _ (wq.drewN n) _ := fun n => HK.out.2.2.1 i (by have := HL.out.2.2.1; omega) (wq.drewN n) (HS.out.drewN n)
              have cC := HK.out.2.2.2.1 i (by have := HL.out.2.2.1; omega)
              have cI := HK.out.2.2.2.2 i (by have := HL.out.2.2.1; omega)
              have hXl := HL.out.2.2.2 i (by have := HL.out.2.2.1; omega)
              have HA := Lib.hid (all_take (PF D) fs i (by have := HL.out.2.2.1; omega) ha.out)
              have HT := Lib.hid (all_miss (PF D) fs i (by have := HL.out.2.2.1; omega))
              obtain ⟨f, ef⟩ : ∃ f, fs[i]'(by have := HL.out.2.2.1; omega) = f := ⟨_, rfl⟩
              simp only [ef] at HA HT c0 c1 c2 c3 cw cC cI hXl
              obtain ⟨XS, eXS⟩ : ∃ XS, f.bs.flatMap LB.code = XS := ⟨_, rfl⟩
              replace cC := cC XS eXS
              replace cI := cI XS eXS
              have hPF : PF D f = (headB wdB f.nm f.ps f.rt && (f.bs.flatMap LB.code).all fun x => rinsB D (insD x)) := rfl
              rw [hPF] at HA HT
              rw [eXS] at HA HT hXl
              clear eXS hPF
              obtain ⟨nm, pp, pn, pc, ps, rt, bp, bn, bc, bs⟩ := f
              simp only at HA HT c0 c1 c2 c3 cw cC cI hXl
              obtain ⟨qw, eqw⟩ : ∃ q, headB wdB nm ps rt = q := ⟨_, rfl⟩
              simp only [eqw] at HA HT cw
              have hcs : ∀ w, Below W.heap.size W w → w.cell? (a.add (i * 4)) = some (.string nm) ∧ w.cell? ⟨(a.add (i * 4)).block, (a.add (i * 4)).off + 1, none⟩ = some (.slice pp pn pc) ∧ w.cell? ⟨(a.add (i * 4)).block, (a.add (i * 4)).off + 2, none⟩ = some (.int .i64 rt) ∧ w.cell? ⟨(a.add (i * 4)).block, (a.add (i * 4)).off + 3, none⟩ = some (.slice bp bn bc) := fun w hb =>
                ⟨(hb.cell (p := a.add (i * 4)) (by rw [add_block]; exact hab)).trans c0, (hb.cell (p := ⟨(a.add (i * 4)).block, (a.add (i * 4)).off + 1, none⟩) (by dsimp only; rw [add_block]; exact hab)).trans c1, (hb.cell (p := ⟨(a.add (i * 4)).block, (a.add (i * 4)).off + 2, none⟩) (by dsimp only; rw [add_block]; exact hab)).trans c2, (hb.cell (p := ⟨(a.add (i * 4)).block, (a.add (i * 4)).off + 3, none⟩) (by dsimp only; rw [add_block]; exact hab)).trans c3⟩
              have HC := Lib.hid (And.intro hcs (And.intro cC cI))
              clear ef ha eqw hcs cC cI c0 c1 c2 c3
              obtain ⟨c0, c1, c2, c3⟩ := HC.out.1 wq HS.out.2
              go_wp2_with fail
              go_quiet (exact Calls.quiet_of_same (cw _))
              all_goals
                generalize hz : World.drewN wq _ = wd at *
                have HS2 : Hid (OneS W [.slice vp vn vc, .slice xp xn xc, .slice (some a) fn fc] wd) := Lib.hid (by rw [← hz]; exact HS.out.drewN _)
                clear hz cw c0 c1 c2 c3 y2
                cases qw
                case false =>
                  go_wp2_with fail
                  go_ret
                  exact ⟨ret_bool (by rw [← HQ.out.2.2, HT.out (by simp)]; simp), HS2.out.2⟩
                case true =>
                  have y2 := HS2.out.1.get 2 _ rfl
                  obtain ⟨c0, c1, c2, c3⟩ := HC.out.1 wd HS2.out.2
                  have cc := HC.out.2.1 wd HS2.out
                  go_wp2_with fail
                  refine cc.mono ?_
                  rintro e w5 ⟨p, cap, vpp, rfl, hb, hrow⟩
                  have HS5 := Lib.hid (And.intro (HS2.out.later hb) hrow)
                  clear cc hb hrow c0 c1 c2 c3 y2
                  go_wp2_with fail
                  go_loopw [11] (fun t wr => ∃ j : Nat, j ≤ XS.length ∧ t = .int .i64 j ∧ Hid ((XS.take j).all (fun x => rinsB D (insD x)) = true) ∧ OneS W [.slice vp vn vc, .slice xp xn xc, .slice (some a) fn fc] wr ∧ Below w5.heap.size w5 wr) (fun t _ => XS.length - (intOf t).toNat)
                  case atStart => exact ⟨0, Nat.zero_le _, rfl, Lib.hid (by simp), HS5.out.1, Below.refl _ _⟩
                  case round =>
                    obtain ⟨j, hj, rfl, hax, hS, hbx⟩ := hrel
                    generalize wr = wx at *
                    by_cases hltj : j < XS.length
                    · obtain ⟨ax, rfl, hat⟩ := HS5.out.2 j hltj
                      have hI := HC.out.2.2 j hltj
                      have HAX := Lib.hid (all_take (fun x : LI => rinsB D (insD x)) XS j hltj hax.out)
                      have HTX := Lib.hid (all_miss (fun x : LI => rinsB D (insD x)) XS j hltj)
                      obtain ⟨x, ex⟩ : ∃ x, XS[j] = x := ⟨_, rfl⟩
                      simp only [ex] at hat hI HAX HTX
                      obtain ⟨qx, eqx⟩ : ∃ q, rinsB D (insD x) = q := ⟨_, rfl⟩
                      simp only [eqx] at hI HAX HTX
                      obtain ⟨⟨op, rg, ty, nn, fl, ap, al, ac, tp, tl, tc, rs⟩, ts⟩ := x
                      have hI : ∀ w, OneS W [.slice vp vn vc, .slice xp xn xc, .slice (some a) fn fc] w → Calls Tryz.prog 31 #[.agg #[.slice vp vn vc, .slice xp xn xc, .slice (some a) fn fc], .agg #[.int .i64 op, .int .i64 rg, .int .i64 ty, .int .i64 nn, .int .i64 fl, .slice ap al ac, .slice tp tl tc]] w (Ans (.bool qx) w) := hI
                      have hat : ∀ w2, Below w5.heap.size w5 w2 → ax.block < w5.heap.size ∧ (w2.cell? (ax.add (j * 7)) = some (.int .i64 op) ∧ w2.cell? ⟨(ax.add (j * 7)).block, (ax.add (j * 7)).off + 1, none⟩ = some (.int .i64 rg) ∧ w2.cell? ⟨(ax.add (j * 7)).block, (ax.add (j * 7)).off + 2, none⟩ = some (.int .i64 ty) ∧ w2.cell? ⟨(ax.add (j * 7)).block, (ax.add (j * 7)).off + 3, none⟩ = some (.int .i64 nn) ∧ w2.cell? ⟨(ax.add (j * 7)).block, (ax.add (j * 7)).off + 4, none⟩ = some (.int .i64 fl) ∧ w2.cell? ⟨(ax.add (j * 7)).block, (ax.add (j * 7)).off + 5, none⟩ = some (.slice ap al ac) ∧ w2.cell? ⟨(ax.add (j * 7)).block, (ax.add (j * 7)).off + 6, none⟩ = some (.slice tp tl tc)) := hat
                      have HX := Lib.hid (And.intro hI (And.intro hat (And.intro hS hbx)))
                      clear ex eqx hax hI hat hS hbx
                      go_upto_region 23 with fail
                      go_cut [12] (fun s wz => s = .bool qx ∧ OneS W [.slice vp vn vc, .slice xp xn xc, .slice (some a) fn fc] wz ∧ Below w5.heap.size w5 wz)
                      case first =>
                        have HSS : ∀ w, OneS W [.slice vp vn vc, .slice xp xn xc, .slice (some a) fn fc] w → Below w5.heap.size w5 w → (w.cell? ⟨W.heap.size, 0, none⟩ = some (.slice vp vn vc) ∧ w.cell? ⟨W.heap.size, 1, none⟩ = some (.slice xp xn xc) ∧ w.cell? ⟨W.heap.size, 2, none⟩ = some (.slice (some a) fn fc) ∧ w.cell? (ax.add (j * 7)) = some (.int .i64 op) ∧ w.cell? ⟨(ax.add (j * 7)).block, (ax.add (j * 7)).off + 1, none⟩ = some (.int .i64 rg) ∧ w.cell? ⟨(ax.add (j * 7)).block, (ax.add (j * 7)).off + 2, none⟩ = some (.int .i64 ty) ∧ w.cell? ⟨(ax.add (j * 7)).block, (ax.add (j * 7)).off + 3, none⟩ = some (.int .i64 nn) ∧ w.cell? ⟨(ax.add (j * 7)).block, (ax.add (j * 7)).off + 4, none⟩ = some (.int .i64 fl) ∧ w.cell? ⟨(ax.add (j * 7)).block, (ax.add (j * 7)).off + 5, none⟩ = some (.slice ap al ac) ∧ w.cell? ⟨(ax.add (j * 7)).block, (ax.add (j * 7)).off + 6, none⟩ = some (.slice tp tl tc)) := fun w h hb => by
                          obtain ⟨_, s0, s1, s2, s3, s4, s5, s6⟩ := HX.out.2.1 w hb
                          exact ⟨h.1.get 0 _ rfl, h.1.get 1 _ rfl, h.1.get 2 _ rfl, s0, s1, s2, s3, s4, s5, s6⟩
                        obtain ⟨y0, y1, y2, z0, z1, z2, z3, z4, z5, z6⟩ := HSS wx HX.out.2.2.1 HX.out.2.2.2
                        have kh : TwoB W [.slice vp vn vc, .slice xp xn xc, .slice (some a) fn fc] w5 wx := ⟨HX.out.2.2.1, HX.out.2.2.2⟩
                        have cO : ∀ w, ((w.cell? ⟨W.heap.size, 0, none⟩ = some (.slice vp vn vc) ∧ w.cell? ⟨W.heap.size, 1, none⟩ = some (.slice xp xn xc) ∧ w.cell? ⟨W.heap.size, 2, none⟩ = some (.slice (some a) fn fc) ∧ w.cell? (ax.add (j * 7)) = some (.int .i64 op) ∧ w.cell? ⟨(ax.add (j * 7)).block, (ax.add (j * 7)).off + 1, none⟩ = some (.int .i64 rg) ∧ w.cell? ⟨(ax.add (j * 7)).block, (ax.add (j * 7)).off + 2, none⟩ = some (.int .i64 ty) ∧ w.cell? ⟨(ax.add (j * 7)).block, (ax.add (j * 7)).off + 3, none⟩ = some (.int .i64 nn) ∧ w.cell? ⟨(ax.add (j * 7)).block, (ax.add (j * 7)).off + 4, none⟩ = some (.int .i64 fl) ∧ w.cell? ⟨(ax.add (j * 7)).block, (ax.add (j * 7)).off + 5, none⟩ = some (.slice ap al ac) ∧ w.cell? ⟨(ax.add (j * 7)).block, (ax.add (j * 7)).off + 6, none⟩ = some (.slice tp tl tc)) ∧ TwoB W [.slice vp vn vc, .slice xp xn xc, .slice (some a) fn fc] w5 w) → Calls Tryz.prog 31 #[.agg #[.slice vp vn vc, .slice xp xn xc, .slice (some a) fn fc], .agg #[.int .i64 op, .int .i64 rg, .int .i64 ty, .int .i64 nn, .int .i64 fl, .slice ap al ac, .slice tp tl tc]] w fun e w' => e = .returned (.bool qx) ∧ w'.cell? ⟨W.heap.size, 0, none⟩ = some (.slice vp vn vc) ∧ w'.cell? ⟨W.heap.size, 1, none⟩ = some (.slice xp xn xc) ∧ w'.cell? ⟨W.heap.size, 2, none⟩ = some (.slice (some a) fn fc) ∧ w'.cell? (ax.add (j * 7)) = some (.int .i64 op) ∧ w'.cell? ⟨(ax.add (j * 7)).block, (ax.add (j * 7)).off + 1, none⟩ = some (.int .i64 rg) ∧ w'.cell? ⟨(ax.add (j * 7)).block, (ax.add (j * 7)).off + 2, none⟩ = some (.int .i64 ty) ∧ w'.cell? ⟨(ax.add (j * 7)).block, (ax.add (j * 7)).off + 3, none⟩ = some (.int .i64 nn) ∧ w'.cell? ⟨(ax.add (j * 7)).block, (ax.add (j * 7)).off + 4, none⟩ = some (.int .i64 fl) ∧ w'.cell? ⟨(ax.add (j * 7)).block, (ax.add (j * 7)).off + 5, none⟩ = some (.slice ap al ac) ∧ w'.cell? ⟨(ax.add (j * 7)).block, (ax.add (j * 7)).off + 6, none⟩ = some (.slice tp tl tc) ∧ TwoB W [.slice vp vn vc, .slice xp xn xc, .slice (some a) fn fc] w5 w' := by
                          rintro w ⟨k, kh⟩
                          refine (HX.out.1 w kh.1).mono ?_
                          rintro e w' ⟨he, hb⟩
                          have h2 := kh.later hb
                          obtain ⟨s0, s1, s2, s3, s4, s5, s6, s7, s8, s9⟩ := HSS w' h2.1 h2.2
                          exact ⟨he, s0, s1, s2, s3, s4, s5, s6, s7, s8, s9, h2⟩
                        clear HSS
                        go_region_held3 (fun w' => w'.cell? ⟨W.heap.size, 0, none⟩ = some (.slice vp vn vc) ∧ w'.cell? ⟨W.heap.size, 1, none⟩ = some (.slice xp xn xc) ∧ w'.cell? ⟨W.heap.size, 2, none⟩ = some (.slice (some a) fn fc) ∧ w'.cell? (ax.add (j * 7)) = some (.int .i64 op) ∧ w'.cell? ⟨(ax.add (j * 7)).block, (ax.add (j * 7)).off + 1, none⟩ = some (.int .i64 rg) ∧ w'.cell? ⟨(ax.add (j * 7)).block, (ax.add (j * 7)).off + 2, none⟩ = some (.int .i64 ty) ∧ w'.cell? ⟨(ax.add (j * 7)).block, (ax.add (j * 7)).off + 3, none⟩ = some (.int .i64 nn) ∧ w'.cell? ⟨(ax.add (j * 7)).block, (ax.add (j * 7)).off + 4, none⟩ = some (.int .i64 fl) ∧ w'.cell? ⟨(ax.add (j * 7)).block, (ax.add (j * 7)).off + 5, none⟩ = some (.slice ap al ac) ∧ w'.cell? ⟨(ax.add (j * 7)).block, (ax.add (j * 7)).off + 6, none⟩ = some (.slice tp tl tc))
                          (((try dsimp only); (repeat' apply And.intro) <;> (first | (with_reducible assumption) | (rw [World.cell?_drew]; with_reducible assumption) | (simp <;> omega))))
                          (first
                            | ((with_reducible refine' (cO _ ?pre).mono ?_)
                               case pre => (refine ⟨⟨?_, ?_, ?_, ?_, ?_, ?_, ?_, ?_, ?_, ?_⟩, ?_⟩ <;> (first | (with_reducible assumption) | (rw [World.cell?_drew]; with_reducible assumption) | (with_reducible apply TwoB.drew; with_reducible assumption) | (simp <;> omega) | omega))
                               rintro e wsa ⟨rfl, sa0, sa1, sa2, sa3, sa4, sa5, sa6, sa7, sa8, sa9, sah⟩))
                        all_goals
                          go_wp2_with fail
                          go_meet
                          exact ⟨rfl, sah.1, sah.2⟩
                      case rest =>
                        obtain ⟨rfl, hS7, hb7⟩ := hcut
                        generalize wc = w7 at *
                        have HS7 := Lib.hid (And.intro hS7 hb7)
                        clear hS7 hb7
                        cases qx
                        case false =>
                          have hxa := HTX.out (by first | rfl | trivial)
                          have HXA := Lib.hid hxa
                          clear hxa
                          go_wp2_with fail
                          go_ret
                          exact ⟨ret_bool (by rw [← HQ.out.2.2, HT.out (by rw [HXA.out]; rfl)]; simp), HS7.out.1.2⟩
                        case true =>
                          go_wp2_with fail
                          exact ⟨⟨j + 1, by omega, by go_num, HAX, HS7.out.1, HS7.out.2⟩, by simp [intOf]; omega⟩
                    · obtain rfl : j = XS.length := by omega
                      have HF := Lib.hid (HA.out.trans (by
                        have h := hax.out
                        rw [List.take_length] at h
                        rw [h]
                        rfl : (true && XS.all fun x => rinsB D (insD x)) = true))
                      have HS7 := Lib.hid hS
                      clear hax hS hbx
                      go_wp2_with fail
                      exact ⟨⟨i + 1, by omega, by go_num, HF, HS7.out⟩, by simp [intOf]; omega⟩
            · obtain rfl : fn = i := by omega
              have H3 : Hid (q3 = true) := Lib.hid (by
                have h := ha.out
                rw [HL.out.2.2.1, List.take_length] at h
                rw [← HQ.out.2.2, h])
              clear ha
              go_wp2_with fail
              go_ret
              exact ⟨ret_bool (by rw [H1.out, H2.out, H3.out]; rfl), HS.out.2⟩
end
end Go.Proofs.YtmampoakdjjbiaaGreatDoor
