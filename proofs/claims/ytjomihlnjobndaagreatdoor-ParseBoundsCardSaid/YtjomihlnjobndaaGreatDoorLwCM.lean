/- ParseBounds: the walk. -/
import Derived.Test.YtjomihlnjobndaaGreatDoorMg19
import Derived.Test.YtjomihlnjobndaaGreatDoorLwBM
namespace Go.Proofs.YtjomihlnjobndaaGreatDoor
open Go.RowKit Go.Maps
set_option linter.unusedVariables false
set_option linter.unusedSimpArgs false
set_option maxRecDepth 100000
set_option maxHeartbeats 8000000

theorem names_one {fs : List LFn} (h : ((fs.map fnD).map fun f => byt f.nm).Nodup) (k i : Nat) (hk : k < i) (hi : i < fs.length) : ¬ fs[k].nm.toList = fs[i].nm.toList := by
  intro e
  rw [List.map_map] at h
  have hp := List.pairwise_iff_getElem.1 h k i (by rw [List.length_map]; omega) (by rw [List.length_map]; omega) hk
  rw [List.getElem_map, List.getElem_map] at hp
  exact hp (congrArg byt (str_inj e))
theorem parseBounds_walk (s : ByteArray) (hs : s.size < 4611686018427387904) (W : World) (hK : Stc W) :
    Calls Tryz.prog 4 #[.string s] W fun e w' => e = .returned (.bool true) ∧ Below W.heap.size W w' := by
  have c0 := lives4_any W hK
  have c1 : ∀ w, Below W.heap.size W w → Calls Tryz.prog 10 #[.string s] w (PB w s.data.toList) := fun w hb => Parse_pb s hs w (hK.later hb)
  generalize s.data.toList = l at c1
  go_enter Tryz.func4, Tryz.ntmps4
  go_wp2_with (first
    | ((with_reducible refine c0.mono ?_); rintro e w1 ⟨rfl, hB1⟩; have c2 := c1 w1 hB1))
  refine c2.mono ?_
  rintro e w2 ⟨ts, f0, hT, hB2, ⟨c, ln, cl, hc, hf, rfl⟩ | ⟨m, hf0, hp, hM, hin, rfl⟩⟩
  · have F := (((Fr.start W).later (hB1.trans (hB2.mono hB1.size))).push (g := w2.heap.size) rfl [.slice none 0 0, .slice none 0 0, .slice none 0 0] 35).push (g := w2.heap.size + 1) (by simp) [.int .i64 c, .int .i64 ln, .int .i64 cl] 26
    have HF := Lib.hid F
    have hc2 : ((c : Int) != 0) = true := by simp; omega
    clear F hT hB2 hf hc
    go_wp2_with fail
    go_ret
    exact ⟨rfl, HF.out.1⟩
  · obtain ⟨vp, vn, vc, vs, xp, xn, xc, xs, fp, fn, fc, fs⟩ := m
    obtain rfl : vn = vs.length := hin.1.1
    obtain rfl : xn = xs.length := hin.2.1.1
    obtain rfl : fn = fs.length := hin.2.2.1
    have F := (((Fr.start W).later (hB1.trans (hB2.mono hB1.size))).push (g := w2.heap.size) rfl [.slice vp vs.length vc, .slice xp xs.length xc, .slice fp fs.length fc] 35).push (g := w2.heap.size + 1) (by simp) [.int .i64 0, .int .i64 0, .int .i64 0] 26
    have HF := Lib.hid F
    have HM := Lib.hid hM
    have PA : Past w2.heap.size w2 ((w2.alloc (.cells #[.slice vp vs.length vc, .slice xp xs.length xc, .slice fp fs.length fc] 35)).alloc (.cells #[.int .i64 0, .int .i64 0, .int .i64 0] 26)) := ((Past.refl (Nat.le_refl _)).alloc _).alloc _
    have HI := Lib.hid (show ModIn _ _ ⟨vp, vs.length, vc, vs, xp, xs.length, xc, xs, fp, fs.length, fc, fs⟩ from past_lasts lasts_Mod hin PA)
    have n1 : ¬ 8 < vs.length := by have := hM.vl; show ¬ 8 < vs.length; have e : (modD ⟨vp, vs.length, vc, vs, xp, xs.length, xc, xs, fp, fs.length, fc, fs⟩).vs.length = vs.length := rfl; omega
    have n2 : ¬ 8 < xs.length := by have := hM.xl; have e : (modD ⟨vp, vs.length, vc, vs, xp, xs.length, xc, xs, fp, fs.length, fc, fs⟩).xs.length = xs.length := by simp [modD]
                                    omega
    have n3 : ¬ 8 < fs.length := by have := hM.fl; have e : (modD ⟨vp, vs.length, vc, vs, xp, xs.length, xc, xs, fp, fs.length, fc, fs⟩).fs.length = fs.length := by simp [modD]
                                    omega
    clear F hT hB2 hf0 hp hM hin PA
    go_wp2_with fail
    generalize (w2.alloc (.cells #[.slice vp vs.length vc, .slice xp xs.length xc, .slice fp fs.length fc] 35)).alloc (.cells #[.int .i64 0, .int .i64 0, .int .i64 0] 26) = wo at *
    generalize w2.heap.size = g at *
    have kv := HI.out.1.2.1
    have kv2 := HI.out.1.2.2.1
    have kf := HI.out.2.2.2.1
    have kf2 := HI.out.2.2.2.2.1
    unfold maxLen at kv2 kf2
    simp only at kv kv2 kf kf2
    clear c1 n1 n2 n3 hB1
    go_loopw [59] (fun ti wr => ∃ i : Nat, i ≤ vs.length ∧ ti = .int .i64 i ∧ Hid (Fr W [(g + 1, [.int .i64 0, .int .i64 0, .int .i64 0]), (g, [.slice vp vs.length vc, .slice xp xs.length xc, .slice fp fs.length fc])] wr) ∧ Hid (Past wo.heap.size wo wr)) (fun ti _ => vs.length - (intOf ti).toNat)
    case atStart => exact ⟨0, Nat.zero_le _, rfl, HF, Lib.hid (Past.refl (Nat.le_refl _))⟩
    case round =>
      obtain ⟨i, hi, rfl, hF, hP⟩ := hrel
      obtain ⟨m0, m1, m2⟩ := hF.out.c3 1 rfl
      by_cases hlt : i < vs.length
      · obtain ⟨a, ea, ha, z0, z1⟩ := var_row HI.out.1 i hlt
        have ha2 : (a.add (i * 2)).block < wo.heap.size := by rw [add_block]; exact ha
        replace z0 := (hP.out.2.cell (p := a.add (i * 2)) ha2).trans z0
        replace z1 := (hP.out.2.cell (p := ⟨(a.add (i * 2)).block, (a.add (i * 2)).off + 1, none⟩) ha2).trans z1
        have hV := HM.out.vs vs[i] (List.getElem_mem hlt)
        obtain ⟨⟨nm, sz⟩, ex⟩ : ∃ v, vs[i] = v := ⟨_, rfl⟩
        rw [ex] at z0 z1 hV
        obtain ⟨w1, w2', w3⟩ := hV
        simp only at z0 z1 w1 w2' w3
        have cW := word_told nm w1
        have q1 : ¬ sz < 1 := by omega
        have q2 : ¬ 64 < sz := by omega
        simp only at ea
        subst ea
        clear ex w2' w3 ha w1
        go_wp2_with ((with_reducible refine (cW _).mono ?_); rintro e w5 ⟨rfl, rfl⟩)
        exact ⟨⟨i + 1, by omega, by go_num, Lib.hid (hF.out.alloc _), Lib.hid (hP.out.alloc _)⟩, by simp [intOf]; omega⟩
      · go_wp2_with fail
        generalize wr = wa at *
        clear m0 m1 m2 hi hlt
        go_loopw [81] (fun ti wr => ∃ i : Nat, i ≤ fs.length ∧ ti = .int .i64 i ∧ Hid (Fr W [(g + 1, [.int .i64 0, .int .i64 0, .int .i64 0]), (g, [.slice vp vs.length vc, .slice xp xs.length xc, .slice fp fs.length fc])] wr) ∧ Hid (Past wo.heap.size wo wr)) (fun ti _ => fs.length - (intOf ti).toNat)
        case atStart => exact ⟨0, Nat.zero_le _, rfl, hF, hP⟩
        case round =>
          obtain ⟨i, hi, rfl, hF, hP⟩ := hrel
          obtain ⟨m0, m1, m2⟩ := hF.out.c3 1 rfl
          by_cases hlt : i < fs.length
          · obtain ⟨a, ea, ha, z0, z1, z2, z3⟩ := fn_row HI.out.2.2 i hlt
            have ha2 : (a.add (i * 4)).block < wo.heap.size := by rw [add_block]; exact ha
            replace z0 := (hP.out.2.cell (p := a.add (i * 4)) ha2).trans z0
            replace z1 := (hP.out.2.cell (p := ⟨(a.add (i * 4)).block, (a.add (i * 4)).off + 1, none⟩) ha2).trans z1
            replace z2 := (hP.out.2.cell (p := ⟨(a.add (i * 4)).block, (a.add (i * 4)).off + 2, none⟩) ha2).trans z2
            replace z3 := (hP.out.2.cell (p := ⟨(a.add (i * 4)).block, (a.add (i * 4)).off + 3, none⟩) ha2).trans z3
            have hV := HM.out.fs (fnD fs[i]) (List.mem_map_of_mem (f := fnD) (List.getElem_mem hlt))
            have hFI : FnIn wo.heap.size wo fs[i] := HI.out.2.2.2.2.2.2 _ (List.getElem_mem hlt)
            have hNm : Hid (∀ k (h : k < i), ¬ (fs[k]'(by omega)).nm.toList = fs[i].nm.toList) := Lib.hid fun k hk => names_one HM.out.one k i hk hlt
            obtain ⟨⟨nm, pp, pn, pc, ps, rt, bp, bn, bc, bs⟩, ex⟩ : ∃ f, fs[i] = f := ⟨_, rfl⟩
            rw [ex] at z0 z1 z2 z3 hV hFI
            simp only [ex] at hNm
            simp only at z0 z1 z2 z3
            obtain rfl : pn = ps.length := hFI.1.1
            obtain rfl : bn = bs.length := hFI.2.1
            obtain ⟨w1, w2', -, w4, w5', w6⟩ := hV
            have w4' : ((bs.map blkD).length ≤ 64) := w4
            rw [List.length_map] at w4'
            have q1 : ¬ 8 < ps.length := by have : ps.length ≤ 8 := w2'.1; omega
            have q2 : ¬ 64 < bs.length := by omega
            obtain ⟨T, eT⟩ : ∃ T, (bs.map blkD).flatten.length = T := ⟨_, rfl⟩
            have q3 : ¬ 400 < T := by have : (bs.map blkD).flatten.length ≤ 400 := w5'; omega
            have cW := word_told nm w1
            have HFI := Lib.hid hFI
            have HIN := Lib.hid w6
            have k2 := hFI.1.2.1
            have k3 := hFI.1.2.2.1
            have k4 := hFI.2.2.1
            have k5 := hFI.2.2.2.1
            unfold maxLen at k3 k5
            simp only at k2 k3 k4 k5
            have F8 := hF.out.push (g := wr.heap.size) rfl [.string nm, .slice pp ps.length pc, .int .i64 rt, .slice bp bs.length bc] 46
            have cS : Calls Tryz.prog 13 #[.agg #[.string nm, .slice pp ps.length pc, .int .i64 rt, .slice bp bs.length bc]] (wr.alloc (.cells #[.string nm, .slice pp ps.length pc, .int .i64 rt, .slice bp bs.length bc] 46)) fun e w' => e = .returned (.int .i64 T) ∧ Below (wr.alloc (.cells #[.string nm, .slice pp ps.length pc, .int .i64 rt, .slice bp bs.length bc] 46)).heap.size (wr.alloc (.cells #[.string nm, .slice pp ps.length pc, .int .i64 rt, .slice bp bs.length bc] 46)) w' := size_told ⟨nm, pp, ps.length, pc, ps, rt, bp, bs.length, bc, bs⟩ _ (past_lasts lasts_Fn hFI (hP.out.alloc _)) T eT (by omega)
            have HF8 := Lib.hid F8
            simp only at ea
            subst ea
            clear ex w1 w2' w4 w5' w6 w4' eT ha hFI F8
            go_wp2_with (first
              | ((with_reducible refine cS.mono ?_)
                 rintro e w5 ⟨rfl, hb5⟩
                 have HF9 := Lib.hid (HF8.out.later hb5)
                 have hP9 := Lib.hid ((hP.out.alloc (.cells #[.string nm, .slice pp ps.length pc, .int .i64 rt, .slice bp bs.length bc] 46)).trans ⟨(hP.out.alloc (.cells #[.string nm, .slice pp ps.length pc, .int .i64 rt, .slice bp bs.length bc] 46)).size, hb5.mono (hP.out.alloc _).size⟩)
                 obtain ⟨x0, x1, x2, x3⟩ := HF9.out.c4 0 rfl
                 clear hb5)
              | ((with_reducible refine (cW _).mono ?_); rintro e w6 ⟨rfl, rfl⟩))
            generalize wr.heap.size = g8 at *
            generalize wr = wb at *
            clear z0 z1 z2 z3 x0 x1 x2 x3 m0 m1 m2 cS cW
            generalize w6 = wc at *
            go_loopw [9] (fun tk wr => ∃ k : Nat, k ≤ i ∧ tk = .int .i64 k ∧ Hid (Fr W [(g8, [.string nm, .slice pp ps.length pc, .int .i64 rt, .slice bp bs.length bc]), (g + 1, [.int .i64 0, .int .i64 0, .int .i64 0]), (g, [.slice vp vs.length vc, .slice xp xs.length xc, .slice (some a) fs.length fc])] wr) ∧ Hid (Past wo.heap.size wo wr)) (fun tk _ => i - (intOf tk).toNat)
            case atStart => exact ⟨0, Nat.zero_le _, rfl, HF9, hP9⟩
            case round =>
              obtain ⟨k, hk, rfl, hF3, hP3⟩ := hrel
              obtain ⟨m0, m1, m2⟩ := hF3.out.c3 2 rfl
              obtain ⟨x0, x1, x2, x3⟩ := hF3.out.c4 0 rfl
              by_cases klt : k < i
              · have kf3 : k < fs.length := by omega
                obtain ⟨a', ea', ha', y0, -, -, -⟩ := fn_row HI.out.2.2 k kf3
                injection ea' with ea'
                subst ea'
                have ha3 : (a.add (k * 4)).block < wo.heap.size := by rw [add_block]; exact ha'
                replace y0 := (hP3.out.2.cell (p := a.add (k * 4)) ha3).trans y0
                have hne := hNm.out k klt
                obtain ⟨nk, ek⟩ : ∃ n, fs[k].nm = n := ⟨_, rfl⟩
                simp only [ek] at y0 hne
                have hne2 : (nk.toList == nm.toList) = false := beq_eq_false_iff_ne.2 hne
                clear ek ha'
                go_wp2_with fail
                go_region
                all_goals
                  go_wp2_with fail
                  exact ⟨⟨k + 1, by omega, by go_num, (by first | exact hF3 | exact Lib.hid hF3.out.drew), (by first | exact hP3 | exact Lib.hid hP3.out.drew)⟩, by simp [intOf]; omega⟩
              · go_wp2_with fail
                generalize wr = wd at *
                clear m0 m1 m2 x0 x1 x2 x3
                go_loopw [124] (fun tb wr => ∃ b : Nat, b ≤ bs.length ∧ tb = .int .i64 b ∧ Hid (Fr W [(g8, [.string nm, .slice pp ps.length pc, .int .i64 rt, .slice bp bs.length bc]), (g + 1, [.int .i64 0, .int .i64 0, .int .i64 0]), (g, [.slice vp vs.length vc, .slice xp xs.length xc, .slice (some a) fs.length fc])] wr) ∧ Hid (Past wo.heap.size wo wr)) (fun tb _ => bs.length - (intOf tb).toNat)
                case atStart => exact ⟨0, Nat.zero_le _, rfl, hF3, hP3⟩
                case round =>
                  obtain ⟨b, hb, rfl, hF4, hP4⟩ := hrel
                  by_cases blt : b < bs.length
                  · obtain ⟨a4, ea4, ha4, y0⟩ := blk_row HFI.out.2 b blt
                    replace y0 := (hP4.out.2.cell (p := a4.add b) (by rw [add_block]; exact ha4)).trans y0
                    have hBI : BlkIn wo.heap.size wo bs[b] := HFI.out.2.2.2.2.2 _ (List.getElem_mem blt)
                    have hIn : ∀ x ∈ blkD bs[b], InS (modD ⟨vp, vs.length, vc, vs, xp, xs.length, xc, xs, some a, fs.length, fc, fs⟩) x := fun x hx => HIN.out _ (List.mem_map_of_mem (f := blkD) (List.getElem_mem blt)) x hx
                    obtain ⟨⟨cp, cn, ck, code⟩, ex⟩ : ∃ c, bs[b] = c := ⟨_, rfl⟩
                    rw [ex] at y0 hBI hIn
                    simp only at y0
                    obtain rfl : cn = code.length := hBI.1
                    have HBI := Lib.hid hBI
                    have HIN4 := Lib.hid hIn
                    have e2 := hBI.2.1
                    have e3 := hBI.2.2.1
                    unfold maxLen at e3
                    simp only at e2 e3
                    have HF5 := Lib.hid (hF4.out.alloc (.cells #[.slice cp code.length ck] 50))
                    have HP5 := Lib.hid (hP4.out.alloc (.cells #[.slice cp code.length ck] 50))
                    clear ex hBI hIn
                    simp only at ea4
                    subst ea4
                    go_wp2_with fail
                    generalize wr.alloc (.cells #[.slice cp code.length ck] 50) = we at *
                    clear y0 ha4
                    go_loopw [131] (fun tj wr => ∃ j : Nat, j ≤ code.length ∧ tj = .int .i64 j ∧ Hid (Fr W [(g8, [.string nm, .slice pp ps.length pc, .int .i64 rt, .slice (some a4) bs.length bc]), (g + 1, [.int .i64 0, .int .i64 0, .int .i64 0]), (g, [.slice vp vs.length vc, .slice xp xs.length xc, .slice (some a) fs.length fc])] wr) ∧ Hid (Past wo.heap.size wo wr)) (fun tj _ => code.length - (intOf tj).toNat)
                    case atStart => exact ⟨0, Nat.zero_le _, rfl, HF5, HP5⟩
                    case round =>
                      obtain ⟨j, hj, rfl, hF6, hP6⟩ := hrel
                      by_cases jlt : j < code.length
                      · obtain ⟨a5, ea5, ha5, hIA⟩ := li_row HBI.out j jlt
                        obtain ⟨y0, y1, y2, y3, y4, y5, y6⟩ := hIA.below hP6.out.2 (by rw [add_block]; exact ha5)
                        have hII : InsIn wo.heap.size wo code[j] := HBI.out.2.2.2.2 _ (List.getElem_mem jlt)
                        have hIS := HIN4.out (insD code[j]) (List.mem_map_of_mem (f := insD) (List.getElem_mem jlt))
                        obtain ⟨⟨⟨op, rg, ty, nn, fl, ap, al, ac, tp, tl, tc, args⟩, tg⟩, ex⟩ : ∃ x, code[j] = x := ⟨_, rfl⟩
                        rw [ex] at y0 y1 y2 y3 y4 y5 y6 hII hIS
                        simp only at y0 y1 y2 y3 y4 y5 y6 ea5
                        obtain ⟨m0, m1, m2⟩ := hF6.out.c3 2 rfl
                        have mz := (hF6.out.at 2 rfl).2.1
                        have P7 := hP6.out.alloc (.cells #[.int .i64 op, .int .i64 rg, .int .i64 ty, .int .i64 nn, .int .i64 fl, .slice ap al ac, .slice tp tl tc] 53)
                        have lastsIns : InsIn _ _ ((⟨op, rg, ty, nn, fl, ap, al, ac, tp, tl, tc, args⟩, tg) : LI) := past_lasts lasts_Ins hII P7
                        have cB := bounded_any ⟨vp, vs.length, vc, vs, xp, xs.length, xc, xs, some a, fs.length, fc, fs⟩ (⟨op, rg, ty, nn, fl, ap, al, ac, tp, tl, tc, args⟩, tg) _ (past_lasts lasts_Mod HI.out P7) lastsIns HM.out hIS
                        have cB : Calls Tryz.prog 14 #[.agg #[.slice vp vs.length vc, .slice xp xs.length xc, .slice (some a) fs.length fc], .agg #[.int .i64 op, .int .i64 rg, .int .i64 ty, .int .i64 nn, .int .i64 fl, .slice ap al ac, .slice tp tl tc]] (wr.alloc (.cells #[.int .i64 op, .int .i64 rg, .int .i64 ty, .int .i64 nn, .int .i64 fl, .slice ap al ac, .slice tp tl tc] 53)) _ := cB
                        have HF7 := Lib.hid (hF6.out.alloc (.cells #[.int .i64 op, .int .i64 rg, .int .i64 ty, .int .i64 nn, .int .i64 fl, .slice ap al ac, .slice tp tl tc] 53))
                        have HP7 := Lib.hid P7
                        clear ex hIA hII hIS lastsIns P7
                        subst ea5
                        go_wp2_with ((with_reducible refine cB.mono ?_); rintro e w7 ⟨rfl, hb7⟩)
                        exact ⟨⟨j + 1, by omega, by go_num, Lib.hid (HF7.out.later hb7), Lib.hid (HP7.out.trans ⟨HP7.out.size, hb7.mono HP7.out.size⟩)⟩, by simp [intOf]; omega⟩
                      · go_wp2_with fail
                        exact ⟨⟨b + 1, by omega, by go_num, hF6, hP6⟩, by simp [intOf]; omega⟩
                  · go_wp2_with fail
                    exact ⟨⟨i + 1, by omega, by go_num, Lib.hid hF4.out.tail, hP4⟩, by simp [intOf]; omega⟩
          · go_wp2_with fail
            go_ret
            exact ⟨rfl, hF.out.1⟩
theorem parseBounds_at (s : ByteArray) (hs : s.size ≤ 281474976710656) (W : World) (hK : Stc W) :
    Calls Tryz.prog 4 #[.string s] W fun e w' => e = .returned (.bool true) ∧ Below W.heap.size W w' := parseBounds_walk s (by omega) W hK
end Go.Proofs.YtjomihlnjobndaaGreatDoor
