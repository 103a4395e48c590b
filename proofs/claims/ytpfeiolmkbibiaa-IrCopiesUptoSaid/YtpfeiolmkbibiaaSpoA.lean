/- The law's SpoilAll: it writes over all lists of a module that the call owns, and over nothing else. -/
import Derived.Test.YtpfeiolmkbibiaaOwnT
import Derived.Test.YtpfeiolmkbibiaaOwnW
namespace Go.Proofs.Ytpfeiolmkbibiaa
open Go.RowKit Go.Maps
set_option linter.unusedVariables false
set_option linter.unusedSimpArgs false

theorem ownsRow_block {w w' : World} {B e m n : Nat} {v : Value} {xs : List Value} (h : w.ownsRow B e m v n xs) (hs : ∀ g, v.ownBlock = some g → w'.heap[g]? = w.heap[g]?) : w'.ownsRow B e m v n xs := by
  refine ⟨h.1, ?_⟩
  rcases h.2 with hn | ⟨g, cap, cur, hv, hB, hg, h1, h2, h3, h4⟩
  · exact .inl hn
  · exact .inr ⟨g, cap, cur, hv, hB, (hs g (by rw [hv]; rfl)).trans hg, h1, h2, h3, h4⟩
/-- An element's memory is given up, and another element laid in its place. -/
theorem ListOwn.swap {α : Type} {ty m : Nat} {cel : α → List Value} {Q : Nat → Nat → World → α → Prop} (hQ : Local Q) (hm : 0 < m) (hc : ∀ x, (cel x).length = m) {a b g : Nat} {w : World} {n c : Nat} {xs : List α} (h : ListOwn ty m cel Q a b w (some ⟨g, 0, none⟩) n c xs) (hbs : b ≤ w.heap.size) (i : Nat) (hi : i < xs.length) :
    ∃ a' b', a ≤ a' ∧ a' ≤ b' ∧ b' ≤ b ∧ Q a' b' w xs[i] ∧ a ≤ g ∧ g < b ∧ ∀ w1, Out a' b' w w1 → w1.ownsRow a ty m (.slice (some ⟨g, 0, none⟩) n c) n (xs.flatMap cel) ∧ ∀ y, Q a' b' (w1.setCells g (i * m) (cel y)) y → ListOwn ty m cel Q a b (w1.setCells g (i * m) (cel y)) (some ⟨g, 0, none⟩) n c (xs.set i y) := by
  obtain ⟨h1, h2, h3, h4⟩ := h
  obtain ⟨a', b', k1, k2, k3, k4, k5, k6⟩ := h4.at hQ i hi
  have hg1 := (h2.lt g rfl).1
  have hg2 := h3 g rfl
  have hg3 := k4 g rfl
  refine ⟨a', b', k1, k2, k3, k5, hg1, hg2, fun w1 ho => ?_⟩
  have row : w1.ownsRow a ty m (.slice (some ⟨g, 0, none⟩) n c) n (xs.flatMap cel) := ownsRow_block h2 (fun k e => by
    have e2 : g = k := by simpa [Value.ownBlock] using e
    subst e2
    exact ho.block g (by omega) hg3)
  refine ⟨row, fun y hy => ⟨by rw [List.length_set]; exact h1, ?_, h3, k6 _ y (fun k p q r s => ?_) hy⟩⟩
  · have := setCells_own (cel y) (i * m) row
    rw [sets_flat cel m hm hc _ i hi y] at this
    exact this
  · rw [setCells_heap g (cel y) (i * m) w1 k (fun e => r (by rw [e]; rfl))]
    exact ho.block k (by omega) s
def badX : LExt := ⟨{ data := #[] }, none, 0, 0, [], -5⟩
def badF : LFn := ⟨{ data := #[] }, none, 0, 0, [], -5, none, 0, 0, []⟩
def badVC : List Value := [.string { data := #[] }, .int .i64 (-5)]
def badXC : List Value := [.string { data := #[] }, .slice none 0 0, .int .i64 (-5)]
def badFC : List Value := [.string { data := #[] }, .slice none 0 0, .int .i64 (-5), .slice none 0 0]
theorem badVC_eq : varC ⟨{ data := #[] }, -5⟩ = badVC := rfl
theorem badXC_eq : extC badX = badXC := rfl
theorem badFC_eq : fnC badF = badFC := rfl
theorem badVAll : badVC.toArray.all (·.oneCell') = true := by simp [badVC, Value.oneCell']
theorem badXAll : badXC.toArray.all (·.oneCell') = true := by simp [badXC, Value.oneCell']
theorem badFAll : badFC.toArray.all (·.oneCell') = true := by simp [badFC, Value.oneCell']
theorem badX_own (a b : Nat) (w : World) (h : a ≤ b) : ExtOwn a b w badX := own_nil w h
theorem badF_own (a b : Nat) (w : World) (h : a ≤ b) : FnOwn a b w badF := ⟨a, own_nil w (Nat.le_refl _), own_nil w h⟩

set_option maxRecDepth 100000 in
set_option maxHeartbeats 16000000 in
theorem SpoilAll_own (m : LMod) (lo hi : Nat) (W : World) (hh : hi ≤ W.heap.size) (h : ModOwn lo hi W m) :
    Calls Try.prog 24 #[.agg (modC m).toArray] W fun e w' => e = .returned (.tuple #[]) ∧ Out lo hi W w' := by
  have HIV : Hid ((Try.prog.info? 73).map (·.size) = some 2) := Lib.hid (by kernel_rfl)
  have HIX : Hid ((Try.prog.info? 70).map (·.size) = some 3) := Lib.hid (by kernel_rfl)
  have HIF : Hid ((Try.prog.info? 41).map (·.size) = some 4) := Lib.hid (by kernel_rfl)
  obtain ⟨vp, vn, vc, vs, xp, xn, xc, xs, fp, fn, fc, fs⟩ := m
  obtain ⟨d, e, h1, h2, h3⟩ := h
  simp only at h1 h2 h3
  obtain rfl : vn = vs.length := h1.1
  obtain rfl : xn = xs.length := h2.1
  obtain rfl : fn = fs.length := h3.1
  obtain ⟨kv1, kv2⟩ := h1.caps
  obtain ⟨kx1, kx2⟩ := h2.caps
  obtain ⟨kf1, kf2⟩ := h3.caps
  have l1 := h1.le
  have l2 := h2.le
  have l3 := h3.le
  show Calls Try.prog 24 #[.agg #[.slice vp vs.length vc, .slice xp xs.length xc, .slice fp fs.length fc]] W _
  have F1 : Box W.heap.size [.slice vp vs.length vc, .slice xp xs.length xc, .slice fp fs.length fc] (W.alloc (.cells #[.slice vp vs.length vc, .slice xp xs.length xc, .slice fp fs.length fc] 34)) := Box.new W rfl _ _
  have O1 : Out lo hi W (W.alloc (.cells #[.slice vp vs.length vc, .slice xp xs.length xc, .slice fp fs.length fc] 34)) := (Out.refl _ _ _).alloc _
  have st0 : ∀ a b, b ≤ W.heap.size → Stay a b W (W.alloc (.cells #[.slice vp vs.length vc, .slice xp xs.length xc, .slice fp fs.length fc] 34)) := fun a b hb => ((Past.refl (Nat.le_refl W.heap.size)).alloc (.cells #[.slice vp vs.length vc, .slice xp xs.length xc, .slice fp fs.length fc] 34)).stay hb
  have o1 := h1.stay local_NoOwn (st0 lo d (by omega))
  have o2 := h2.stay local_Ext (st0 d e (by omega))
  have o3 := h3.stay local_Fn (st0 e hi hh)
  have z1 : W.heap.size < (W.alloc (.cells #[.slice vp vs.length vc, .slice xp xs.length xc, .slice fp fs.length fc] 34)).heap.size := by simp
  have a0 := F1.get 0 _ rfl
  go_enter Try.func24, Try.ntmps24
  go_wp2_with fail
  generalize (W.alloc (.cells #[.slice vp vs.length vc, .slice xp xs.length xc, .slice fp fs.length fc] 34)) = w1 at *
  have HO2 := Lib.hid o2
  have HO3 := Lib.hid o3
  have HI := Lib.hid (And.intro F1 (And.intro O1 (And.intro o1 z1)))
  have hlw : hi < w1.heap.size := by omega
  clear F1 O1 o1 o2 o3 h1 h2 h3 a0 st0
  go_loopw [9] (fun t wr => ∃ (i : Nat) (qs : List PVar), i ≤ vs.length ∧ t = .int .i64 i ∧ qs.length = vs.length ∧ Out lo d w1 wr ∧ ListOwn 73 2 varC NoOwn lo d wr vp vs.length vc qs) (fun t _ => vs.length - (intOf t).toNat)
  case atStart => exact ⟨0, vs, Nat.zero_le _, rfl, rfl, Out.refl _ _ _, HI.out.2.2.1⟩
  case round =>
    obtain ⟨i, qs, hi2, rfl, hql, hO, hP⟩ := hrel
    have F2 := Out.box HI.out.1 hO (.inr (by omega))
    have a0 := F2.get 0 _ rfl
    by_cases hlt : i < vs.length
    · obtain ⟨g, rfl⟩ := hP.some_row (by omega)
      have hil : i < qs.length := by omega
      have hth := own_there (f := varC) (m := 2) (fun _ => rfl) hP.2.1 i hil
      obtain ⟨hput, hg1, hg2⟩ := hP.put (m := 2) local_NoOwn (by decide) (fun _ => rfl) i hil ⟨{ data := #[] }, -5⟩ (fun _ _ _ _ => trivial)
      have ho2 := out_setCells hg1 hg2 (varC ⟨{ data := #[] }, -5⟩) (i * 2) wr
      have HTH := Lib.hid hth
      rw [badVC_eq] at hput ho2
      have HP := Lib.hid (And.intro hput ho2)
      have HO := Lib.hid hO
      clear hth hP hput ho2 hO
      have HTH2 : wr.there g (i * 2) badVC.toArray.size := HTH.out
      have HII2 : (Try.prog.info? 73).map (·.size) = some badVC.toArray.size := HIV.out
      go_wp2_with (first
        | (with_reducible refine wpList_store_mid rfl 73 (.tmp 16) (.tmp 15) rfl g (i * 2) badVC.toArray (by simp [go_sem]) (by simp [go_sem, badVC]) HTH2 HII2 badVAll ?_))
      exact ⟨⟨i + 1, qs.set i ⟨{ data := #[] }, -5⟩, by omega, by go_num, by rw [List.length_set]; exact hql, HO.out.trans HP.out.2, HP.out.1⟩, by simp [intOf]; omega⟩
    · have hX := HO2.out.stay local_Ext (hO.stay (a := d) (b := e) (by omega) (.inr (Nat.le_refl _)))
      have hF := HO3.out.stay local_Fn (hO.stay (a := e) (b := hi) (by omega) (.inr (by omega)))
      have HX := Lib.hid hX
      have HF := Lib.hid hF
      have HOW := Lib.hid (HI.out.2.1.trans (hO.mono (Nat.le_refl _) (by omega)))
      have a1 := F2.get 1 _ rfl
      have hsz := hO.size
      have HF2 := Lib.hid F2
      clear hX hF hP F2 hO
      go_wp2_with fail
      clear a0 a1
      generalize wr = w2 at *
      have hlw2 : hi < w2.heap.size := by omega
      go_loopw [21] (fun t wr => ∃ (i : Nat) (cs : List LExt), i ≤ xs.length ∧ t = .int .i64 i ∧ cs.length = xs.length ∧ Hid (∀ j, i ≤ j → cs[j]? = xs[j]?) ∧ Out d e w2 wr ∧ ListOwn 70 3 extC ExtOwn d e wr xp xs.length xc cs) (fun t _ => xs.length - (intOf t).toNat)
      case atStart => exact ⟨0, xs, Nat.zero_le _, rfl, rfl, Lib.hid (fun _ _ => rfl), Out.refl _ _ _, HX.out⟩
      case round =>
        obtain ⟨i, cs, hi3, rfl, hcl, hsame, hO3, hB3⟩ := hrel
        have F3 := Out.box HF2.out hO3 (.inr (by omega))
        have a1 := F3.get 1 _ rfl
        have hz3 := hO3.size
        by_cases hlt3 : i < xs.length
        · have hic : i < cs.length := by omega
          have hcs2 : cs[i] = xs[i] := by
            have hcs : cs[i]? = some xs[i] := by rw [hsame.out i (Nat.le_refl _), List.getElem?_eq_getElem hlt3]
            rw [List.getElem?_eq_getElem hic] at hcs; exact Option.some.inj hcs
          obtain ⟨gb, rfl⟩ := hB3.some_row (by omega)
          have hr := own_range (f := extC) (m := 3) (fun _ => rfl) hB3.2.1 i hic
          obtain ⟨ca, cb, i1, i2, i3, hq, hg1, hg2, up⟩ := hB3.swap (m := 3) local_Ext (by decide) (fun _ => rfl) (by omega) i hic
          rw [hcs2] at hq hr
          unfold ExtOwn at hq
          have c1 := hr 1 _ rfl
          have hq1 := hq.1
          obtain ⟨q2, q3⟩ := hq.caps
          rw [hq1] at c1 hq
          have HQ := Lib.hid hq
          have HUP := Lib.hid up
          have HSAME := Lib.hid hsame
          have HO3' := Lib.hid hO3
          have HF3 := Lib.hid F3
          have HQ1 := Lib.hid hq1
          have HC2 := Lib.hid hcs2
          have HB := Lib.hid hB3
          clear hq up hq1 hr hB3 hcs2 hsame hO3 F3
          go_wp2_with fail
          clear a1 c1
          generalize wr = w3 at *
          go_loopw [31] (fun t wr => ∃ (k : Nat) (ts : List Int), k ≤ xs[i].ps.length ∧ t = .int .i64 k ∧ ts.length = xs[i].ps.length ∧ Out ca cb w3 wr ∧ ListOwn 3 1 intC NoOwn ca cb wr xs[i].pp xs[i].ps.length xs[i].pc ts) (fun t _ => xs[i].ps.length - (intOf t).toNat)
          case atStart => exact ⟨0, xs[i].ps, Nat.zero_le _, rfl, rfl, Out.refl _ _ _, HQ.out⟩
          case round =>
            obtain ⟨k, ts, hk, rfl, htl, hO4, hT⟩ := hrel
            have F4 := Out.box HF3.out hO4 (.inr (by omega))
            have a1 := F4.get 1 _ rfl
            obtain ⟨row4, up4⟩ := HUP.out wr hO4
            have hr := own_range (f := extC) (m := 3) (fun _ => rfl) row4 i hic
            rw [HC2.out] at hr
            have c1 := hr 1 _ rfl
            rw [HQ1.out] at c1
            by_cases hkl : k < xs[i].ps.length
            · obtain ⟨PP, hPP⟩ : ∃ PP, xs[i].pp = PP := ⟨_, rfl⟩
              rw [hPP] at hT c1
              obtain ⟨ga, rfl⟩ := hT.some_row (by omega)
              have hkl2 : k < ts.length := by omega
              have hr2 := own_range (f := intC) (m := 1) (fun _ => rfl) hT.2.1 k hkl2
              have hth := own_there (f := intC) (m := 1) (fun _ => rfl) hT.2.1 k hkl2
              have q0 := hr2 0 _ rfl
              have fz := (hth 0 (by decide)).2
              simp only [Nat.mul_one, Nat.add_zero] at q0 fz
              obtain ⟨hput, hga1, hga2⟩ := hT.put (m := 1) local_NoOwn (by decide) (fun _ => rfl) k hkl2 (-5) (fun _ _ _ _ => trivial)
              rw [Nat.mul_one] at hput
              have ho2 := out_setCells hga1 hga2 (intC (-5)) k wr
              have HPUT := Lib.hid (And.intro hput (And.intro ho2 hO4))
              have HPP := Lib.hid hPP
              clear hr hr2 hth hput hT hO4 row4 up4 F4 ho2 hPP
              go_wp2_with fail
              exact ⟨⟨k + 1, ts.set k (-5), by omega, by go_num, by rw [List.length_set]; exact htl, HPUT.out.2.2.trans HPUT.out.2.1, by rw [HPP.out]; exact HPUT.out.1⟩, by simp [intOf]; omega⟩
            · have hth := own_there (f := extC) (m := 3) (fun _ => rfl) row4 i hic
              have hnew := up4 badX (badX_own _ _ _ i2)
              have ho2 := out_setCells hg1 hg2 (extC badX) (i * 3) wr
              have HTH := Lib.hid hth
              rw [badXC_eq] at hnew ho2
              have HNEW := Lib.hid (And.intro hnew (HO3'.out.trans ((hO4.mono i1 i3).trans ho2)))
              clear hth hnew ho2 hr row4 up4 hO4 hT F4 c1
              have HTH2 : wr.there gb (i * 3) badXC.toArray.size := HTH.out
              have HII2 : (Try.prog.info? 70).map (·.size) = some badXC.toArray.size := HIX.out
              go_wp2_with (first
                | (with_reducible refine wpList_store_mid rfl 70 (.tmp 47) (.tmp 46) rfl gb (i * 3) badXC.toArray (by simp [go_sem]) (by simp [go_sem, badXC]) HTH2 HII2 badXAll ?_))
              refine ⟨⟨i + 1, cs.set i badX, by omega, by go_num, by rw [List.length_set]; exact hcl, Lib.hid (fun j hj => ?_), HNEW.out.2, HNEW.out.1⟩, by simp [intOf]; omega⟩
              rw [List.getElem?_set_ne (by omega)]
              exact HSAME.out j (by omega)
        · have HOW2 := Lib.hid (HOW.out.trans (hO3.mono (by omega) (by omega)))
          have hF := HF.out.stay local_Fn (hO3.stay (a := e) (b := hi) (by omega) (.inr (Nat.le_refl _)))
          have HFF := Lib.hid hF
          have a2 := F3.get 2 _ rfl
          have HF3 := Lib.hid F3
          clear hF hB3 F3 hO3
          go_wp2_with fail
          clear a1 a2
          generalize wr = w4 at *
          have hlw4 : hi < w4.heap.size := by omega
          go_loopw [52] (fun t wr => ∃ (i : Nat) (cs : List LFn), i ≤ fs.length ∧ t = .int .i64 i ∧ cs.length = fs.length ∧ Out e hi w4 wr ∧ ListOwn 41 4 fnC FnOwn e hi wr fp fs.length fc cs) (fun t _ => fs.length - (intOf t).toNat)
          case atStart => exact ⟨0, fs, Nat.zero_le _, rfl, rfl, Out.refl _ _ _, HFF.out⟩
          case round =>
            obtain ⟨i, cs, hi4, rfl, hcl, hO4, hB4⟩ := hrel
            have F4 := Out.box HF3.out hO4 (.inr (by omega))
            have a2 := F4.get 2 _ rfl
            have hz4 := hO4.size
            by_cases hlt4 : i < fs.length
            · have hic : i < cs.length := by omega
              obtain ⟨gb, rfl⟩ := hB4.some_row (by omega)
              have hr := own_range (f := fnC) (m := 4) (fun _ => rfl) hB4.2.1 i hic
              obtain ⟨ca, cb, i1, i2, i3, hq, hg1, hg2, up⟩ := hB4.swap (m := 4) local_Fn (by decide) (fun _ => rfl) (by omega) i hic
              have c0 := hr 0 _ rfl
              have c1 := hr 1 _ rfl
              have c2 := hr 2 _ rfl
              have c3 := hr 3 _ rfl
              simp only [Nat.add_zero] at c0
              have HUP := Lib.hid up
              have HO4 := Lib.hid hO4
              have HF4 := Lib.hid F4
              have hsp := Spoil_own cs[i] ca cb wr (by omega) hq
              have HSP : Hid (Calls Try.prog 39 #[.agg #[.string cs[i].nm, .slice cs[i].pp cs[i].pn cs[i].pc, .int .i64 cs[i].rt, .slice cs[i].bp cs[i].bn cs[i].bc]] wr fun e w' => e = .returned (.tuple #[]) ∧ Out ca cb wr w') := Lib.hid hsp
              clear hr hq up hB4 hO4 F4 hsp
              go_wp2_with fail
              refine HSP.out.mono ?_
              rintro ee w5 ⟨rfl, ho5⟩
              have F5 := Out.box HF4.out ho5 (.inr (by omega))
              have b2 := F5.get 2 _ rfl
              obtain ⟨row5, up5⟩ := HUP.out w5 ho5
              have hth := own_there (f := fnC) (m := 4) (fun _ => rfl) row5 i hic
              have hnew := up5 badF (badF_own _ _ _ i2)
              have ho2 := out_setCells hg1 hg2 (fnC badF) (i * 4) w5
              have HTH := Lib.hid hth
              rw [badFC_eq] at hnew ho2
              have HNEW := Lib.hid (And.intro hnew (HO4.out.trans ((ho5.mono i1 i3).trans ho2)))
              clear hth hnew ho2 row5 up5 ho5 F5 c0 c1 c2 c3 a2
              have HTH2 : w5.there gb (i * 4) badFC.toArray.size := HTH.out
              have HII2 : (Try.prog.info? 41).map (·.size) = some badFC.toArray.size := HIF.out
              go_wp2_with (first
                | (with_reducible refine wpList_store_mid rfl 41 (.tmp 65) (.tmp 64) rfl gb (i * 4) badFC.toArray (by simp [go_sem]) (by simp [go_sem, badFC]) HTH2 HII2 badFAll ?_))
              exact ⟨⟨i + 1, cs.set i badF, by omega, by go_num, by rw [List.length_set]; exact hcl, HNEW.out.2, HNEW.out.1⟩, by simp [intOf]; omega⟩
            · have HOE := Lib.hid (HOW2.out.trans (hO4.mono (by omega) (Nat.le_refl _)))
              go_wp2_with fail
              go_end0
              exact ⟨rfl, HOE.out⟩
end Go.Proofs.Ytpfeiolmkbibiaa
