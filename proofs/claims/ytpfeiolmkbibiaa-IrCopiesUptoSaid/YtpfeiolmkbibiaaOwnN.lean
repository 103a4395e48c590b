/- The document's sameness (package latheref02): functions. -/
import Derived.Test.YtpfeiolmkbibiaaOwnM
namespace Go.Proofs.Ytpfeiolmkbibiaa
open Go.RowKit Go.Maps
set_option linter.unusedVariables false
set_option linter.unusedSimpArgs false

theorem str_inj {a b : ByteArray} (h : a.toList = b.toList) : a = b := Go.WideShapes.bytes_inj (by rw [← ByteArray.toList_eq, ← ByteArray.toList_eq]; exact h)
set_option maxRecDepth 100000 in
set_option maxHeartbeats 4000000 in
theorem Funcs_any (W : World) (x y : LFn) (h : FnIn W.heap.size W x) (h' : FnIn W.heap.size W y) :
    Calls Try.prog 36 #[.agg (fnC x).toArray, .agg (fnC y).toArray] W (Tells (fnD x = fnD y) W) := by
  obtain ⟨nm, pp, pn, pc, ps, rt, bp, bn, bc, bs⟩ := x
  obtain ⟨nm', pp', pn', pc', ps', rt', bp', bn', bc', bs'⟩ := y
  obtain rfl : bn = bs.length := h.2.1
  obtain rfl : bn' = bs'.length := h'.2.1
  have k2 : bs.length ≤ bc := h.2.2.1
  have k3 : bc ≤ maxLen := h.2.2.2.1
  have k2' : bs'.length ≤ bc' := h'.2.2.1
  have k3' : bc' ≤ maxLen := h'.2.2.2.1
  unfold maxLen at k3 k3'
  have H := Lib.hid h
  have H' := Lib.hid h'
  clear h h'
  show Calls Try.prog 36 #[.agg #[.string nm, .slice pp pn pc, .int .i64 rt, .slice bp bs.length bc], .agg #[.string nm', .slice pp' pn' pc', .int .i64 rt', .slice bp' bs'.length bc']] W _
  have hP := (Past.refl (Nat.le_refl W.heap.size)).alloc (.cells #[.string nm, .slice pp pn pc, .int .i64 rt, .slice bp bs.length bc] 41)
  have A1 : Box W.heap.size [.string nm, .slice pp pn pc, .int .i64 rt, .slice bp bs.length bc] (W.alloc (.cells #[.string nm, .slice pp pn pc, .int .i64 rt, .slice bp bs.length bc] 41)) := Box.new W rfl _ _
  have z1 : (W.alloc (.cells #[.string nm, .slice pp pn pc, .int .i64 rt, .slice bp bs.length bc] 41)).heap.size = W.heap.size + 1 := by simp
  go_enter Try.func36, Try.ntmps36
  go_upto_region 1 with fail
  generalize (W.alloc (.cells #[.string nm, .slice pp pn pc, .int .i64 rt, .slice bp bs.length bc] 41)) = w1 at *
  have hP2 := hP.alloc (.cells #[.string nm', .slice pp' pn' pc', .int .i64 rt', .slice bp' bs'.length bc'] 41)
  have A2 := A1.alloc (.cells #[.string nm', .slice pp' pn' pc', .int .i64 rt', .slice bp' bs'.length bc'] 41)
  have B2 : Box (W.heap.size + 1) [.string nm', .slice pp' pn' pc', .int .i64 rt', .slice bp' bs'.length bc'] (w1.alloc (.cells #[.string nm', .slice pp' pn' pc', .int .i64 rt', .slice bp' bs'.length bc'] 41)) := Box.new w1 (by omega) _ _
  generalize (w1.alloc (.cells #[.string nm', .slice pp' pn' pc', .int .i64 rt', .slice bp' bs'.length bc'] 41)) = w2 at *
  have a1 := A2.get 1 _ rfl
  have b1 := B2.get 1 _ rfl
  clear A1 hP z1
  go_wp2_with fail
  refine (Ints_any w2 pp pp' pn pn' pc pc' ps ps' (H.out.1.lasts lasts_NoMem hP2.2 hP2.2.size) (H'.out.1.lasts lasts_NoMem hP2.2 hP2.2.size)).mono ?_
  rintro e w3 ⟨bt, rfl, hbt, hb3⟩
  have hP3 := hP2.trans ⟨hP2.size, hb3.mono hP2.size⟩
  have A3 := A2.later hb3
  have B3 := B2.later hb3
  clear hP2 A2 B2 a1 b1 hb3
  have a0 := A3.get 0 _ rfl
  have a2 := A3.get 2 _ rfl
  have a3 := A3.get 3 _ rfl
  have b0 := B3.get 0 _ rfl
  have b2 := B3.get 2 _ rfl
  have b3 := B3.get 3 _ rfl
  cases bt
  · go_wp2_with fail
    go_ret
    exact ⟨false, rfl, by simp only [Bool.false_eq_true, false_iff] at hbt ⊢; exact fun e => hbt (congrArg PFn.ps e), hP3.2⟩
  · have EP : Hid (ps = ps') := Lib.hid (hbt.1 rfl)
    clear hbt
    by_cases e0 : nm = nm'
    · subst e0
      by_cases e1 : rt = rt'
      · have g1 : (rt != rt') = false := by simp [e1]
        have E1 := Lib.hid e1
        clear e1
        by_cases e2 : bs.length = bs'.length
        · have g2 : ((bs.length : Int) != (bs'.length : Int)) = false := by simp [e2]
          have E2 := Lib.hid e2
          clear e2
          go_wp2_with fail
          have SA := Lib.hid A3
          have SB := Lib.hid B3
          have SP := Lib.hid hP3
          clear A3 B3 hP3 a0 a2 a3 b0 b2 b3
          go_loopw [6] (fun t wr => ∃ i : Nat, i ≤ bs.length ∧ t = .int .i64 i ∧ Below w3.heap.size w3 wr ∧ Hid (∀ j (h1 : j < bs.length) (h2 : j < bs'.length), j < i → blkD bs[j] = blkD bs'[j])) (fun t _ => bs.length - (intOf t).toNat)
          case atStart => exact ⟨0, Nat.zero_le _, rfl, Below.refl _ _, Lib.hid (fun i _ _ h => absurd h (Nat.not_lt_zero i))⟩
          case round =>
            obtain ⟨i, hi, rfl, hb, hE⟩ := hrel
            have P4 := SP.out.trans ⟨SP.out.size, hb.mono SP.out.size⟩
            have A4 := SA.out.later hb
            have B4 := SB.out.later hb
            have a3 := A4.get 3 _ rfl
            have b3 := B4.get 3 _ rfl
            by_cases hlt : i < bs.length
            · have hlt' : i < bs'.length := by have := E2.out; omega
              obtain ⟨a, rfl, ha, hc⟩ := blk_row H.out.2 i hlt
              obtain ⟨a', rfl, ha', hc'⟩ := blk_row H'.out.2 i hlt'
              have hcd : ListIn liC InsIn W.heap.size W bs[i].p bs[i].n bs[i].k bs[i].code := H.out.2.2.2.2.2 bs[i] (List.getElem_mem hlt)
              have hcd' : ListIn liC InsIn W.heap.size W bs'[i].p bs'[i].n bs'[i].k bs'[i].code := H'.out.2.2.2.2.2 bs'[i] (List.getElem_mem hlt')
              have d1 := hcd.1
              have d1' := hcd'.1
              rw [d1] at hc
              rw [d1'] at hc'
              have d2 := hcd.2.1
              have d3 := hcd.2.2.1
              have d2' := hcd'.2.1
              have d3' := hcd'.2.2.1
              rw [d1] at d2
              rw [d1'] at d2'
              unfold maxLen at d3 d3'
              have f0 := (P4.2.cell (p := a.add i) (by rw [add_block]; exact ha)).trans hc
              have f0' := (P4.2.cell (p := a'.add i) (by rw [add_block]; exact ha')).trans hc'
              have HCD := Lib.hid hcd
              have HCD' := Lib.hid hcd'
              clear hc hc' hcd hcd' d1 d1'
              by_cases q0 : bs[i].code.length = bs'[i].code.length
              · have q1 : ((bs[i].code.length : Int) != (bs'[i].code.length : Int)) = false := by simp [q0]
                have Q0 := Lib.hid q0
                clear q0
                go_wp2_with fail
                go_region
                all_goals (try go_wp2_with fail)
                have hbd : Below w3.heap.size w3 wr.drew := below_drew hb
                clear f0 f0' a3 b3 A4 B4
                go_loopw [7] (fun t wi => ∃ k : Nat, k ≤ bs[i].code.length ∧ t = .int .i64 k ∧ Below w3.heap.size w3 wi ∧ Hid (∀ j (h1 : j < bs[i].code.length) (h2 : j < bs'[i].code.length), j < k → insD bs[i].code[j] = insD bs'[i].code[j])) (fun t _ => bs[i].code.length - (intOf t).toNat)
                case atStart => exact ⟨0, Nat.zero_le _, rfl, hbd, Lib.hid (fun i _ _ h => absurd h (Nat.not_lt_zero i))⟩
                case round =>
                  obtain ⟨k, hk, rfl, hbi, hEi⟩ := hrel
                  have P5 := SP.out.trans ⟨SP.out.size, hbi.mono SP.out.size⟩
                  have A5 := SA.out.later hbi
                  have B5 := SB.out.later hbi
                  have a3 := A5.get 3 _ rfl
                  have b3 := B5.get 3 _ rfl
                  have al := A5.1
                  have bl := B5.1
                  obtain ⟨u, hu, hu2, hc⟩ := blk_row H.out.2 i hlt
                  obtain ⟨u', hu', hu2', hc'⟩ := blk_row H'.out.2 i hlt'
                  cases hu
                  cases hu'
                  rw [HCD.out.1] at hc
                  rw [HCD'.out.1] at hc'
                  have f0 := (P5.2.cell (p := a.add i) (by rw [add_block]; exact ha)).trans hc
                  have f0' := (P5.2.cell (p := a'.add i) (by rw [add_block]; exact ha')).trans hc'
                  clear hc hc' hu2 hu2'
                  by_cases hkl : k < bs[i].code.length
                  · have hkl' : k < bs'[i].code.length := by have := Q0.out; omega
                    obtain ⟨v, hv, hv2, hins⟩ := li_row HCD.out k hkl
                    obtain ⟨v', hv', hv2', hins'⟩ := li_row HCD'.out k hkl'
                    obtain ⟨z0, z1, z2, z3, z4, z5, z6⟩ := hins.below P5.2 (by rw [add_block]; exact hv2)
                    obtain ⟨y0, y1, y2, y3, y4, y5, y6⟩ := hins'.below P5.2 (by rw [add_block]; exact hv2')
                    rw [hv] at f0
                    rw [hv'] at f0'
                    clear hins hins' hv hv'
                    have hIB := Below.refl wr.heap.size wr
                    go_wp2_with fail
                    have cI : ∀ w, Below wr.heap.size wr w → Calls Try.prog 60 #[.agg #[.int .i64 bs[i].code[k].1.op, .int .i64 bs[i].code[k].1.reg, .int .i64 bs[i].code[k].1.ty, .int .i64 bs[i].code[k].1.n, .int .i64 bs[i].code[k].1.fl, .slice bs[i].code[k].1.ap bs[i].code[k].1.al bs[i].code[k].1.ac, .slice bs[i].code[k].1.tp bs[i].code[k].1.tl bs[i].code[k].1.tc], .agg #[.int .i64 bs'[i].code[k].1.op, .int .i64 bs'[i].code[k].1.reg, .int .i64 bs'[i].code[k].1.ty, .int .i64 bs'[i].code[k].1.n, .int .i64 bs'[i].code[k].1.fl, .slice bs'[i].code[k].1.ap bs'[i].code[k].1.al bs'[i].code[k].1.ac, .slice bs'[i].code[k].1.tp bs'[i].code[k].1.tl bs'[i].code[k].1.tc]] w (fun e w' => ∃ b : Bool, e = .returned (.bool b) ∧ (b = true ↔ insD bs[i].code[k] = insD bs'[i].code[k]) ∧ Below wr.heap.size wr w') := fun w hw => by
                      have P6 := P5.trans ⟨P5.size, hw.mono P5.size⟩
                      exact (Instrs_any w bs[i].code[k] bs'[i].code[k] (past_lasts lasts_Ins (HCD.out.2.2.2.2 _ (List.getElem_mem hkl)) P6) (past_lasts lasts_Ins (HCD'.out.2.2.2.2 _ (List.getElem_mem hkl')) P6)).mono fun e w' ⟨b, h1, h2, h3⟩ => ⟨b, h1, h2, hw.trans (h3.mono hw.size)⟩
                    have hBW := P5.2.size
                    have HS : ∀ w', Below wr.heap.size wr w' → (w'.cell? ⟨W.heap.size, 3, none⟩ = some (.slice (some a) bs.length bc) ∧ w'.cell? ⟨W.heap.size + 1, 3, none⟩ = some (.slice (some a') bs'.length bc') ∧ w'.cell? (a.add i) = some (.slice (some v) bs[i].code.length bs[i].k) ∧ w'.cell? (a'.add i) = some (.slice (some v') bs'[i].code.length bs'[i].k) ∧ w'.cell? (v.add (k * 7)) = some (.int .i64 bs[i].code[k].1.op) ∧ w'.cell? ⟨(v.add (k * 7)).block, (v.add (k * 7)).off + 1, none⟩ = some (.int .i64 bs[i].code[k].1.reg) ∧ w'.cell? ⟨(v.add (k * 7)).block, (v.add (k * 7)).off + 2, none⟩ = some (.int .i64 bs[i].code[k].1.ty) ∧ w'.cell? ⟨(v.add (k * 7)).block, (v.add (k * 7)).off + 3, none⟩ = some (.int .i64 bs[i].code[k].1.n) ∧ w'.cell? ⟨(v.add (k * 7)).block, (v.add (k * 7)).off + 4, none⟩ = some (.int .i64 bs[i].code[k].1.fl) ∧ w'.cell? ⟨(v.add (k * 7)).block, (v.add (k * 7)).off + 5, none⟩ = some (.slice bs[i].code[k].1.ap bs[i].code[k].1.al bs[i].code[k].1.ac) ∧ w'.cell? ⟨(v.add (k * 7)).block, (v.add (k * 7)).off + 6, none⟩ = some (.slice bs[i].code[k].1.tp bs[i].code[k].1.tl bs[i].code[k].1.tc) ∧ w'.cell? (v'.add (k * 7)) = some (.int .i64 bs'[i].code[k].1.op) ∧ w'.cell? ⟨(v'.add (k * 7)).block, (v'.add (k * 7)).off + 1, none⟩ = some (.int .i64 bs'[i].code[k].1.reg) ∧ w'.cell? ⟨(v'.add (k * 7)).block, (v'.add (k * 7)).off + 2, none⟩ = some (.int .i64 bs'[i].code[k].1.ty) ∧ w'.cell? ⟨(v'.add (k * 7)).block, (v'.add (k * 7)).off + 3, none⟩ = some (.int .i64 bs'[i].code[k].1.n) ∧ w'.cell? ⟨(v'.add (k * 7)).block, (v'.add (k * 7)).off + 4, none⟩ = some (.int .i64 bs'[i].code[k].1.fl) ∧ w'.cell? ⟨(v'.add (k * 7)).block, (v'.add (k * 7)).off + 5, none⟩ = some (.slice bs'[i].code[k].1.ap bs'[i].code[k].1.al bs'[i].code[k].1.ac) ∧ w'.cell? ⟨(v'.add (k * 7)).block, (v'.add (k * 7)).off + 6, none⟩ = some (.slice bs'[i].code[k].1.tp bs'[i].code[k].1.tl bs'[i].code[k].1.tc) ∧ Below wr.heap.size wr w') := fun w' hb => ⟨(hb.cell (p := ⟨W.heap.size, 3, none⟩) al).trans a3, (hb.cell (p := ⟨W.heap.size + 1, 3, none⟩) bl).trans b3, (hb.cell (p := a.add i) (by rw [add_block]; omega)).trans f0, (hb.cell (p := a'.add i) (by rw [add_block]; omega)).trans f0', (hb.cell (p := v.add (k * 7)) (by first | (rw [add_block]; omega) | (dsimp only; rw [add_block]; omega))).trans z0, (hb.cell (p := ⟨(v.add (k * 7)).block, (v.add (k * 7)).off + 1, none⟩) (by first | (rw [add_block]; omega) | (dsimp only; rw [add_block]; omega))).trans z1, (hb.cell (p := ⟨(v.add (k * 7)).block, (v.add (k * 7)).off + 2, none⟩) (by first | (rw [add_block]; omega) | (dsimp only; rw [add_block]; omega))).trans z2, (hb.cell (p := ⟨(v.add (k * 7)).block, (v.add (k * 7)).off + 3, none⟩) (by first | (rw [add_block]; omega) | (dsimp only; rw [add_block]; omega))).trans z3, (hb.cell (p := ⟨(v.add (k * 7)).block, (v.add (k * 7)).off + 4, none⟩) (by first | (rw [add_block]; omega) | (dsimp only; rw [add_block]; omega))).trans z4, (hb.cell (p := ⟨(v.add (k * 7)).block, (v.add (k * 7)).off + 5, none⟩) (by first | (rw [add_block]; omega) | (dsimp only; rw [add_block]; omega))).trans z5, (hb.cell (p := ⟨(v.add (k * 7)).block, (v.add (k * 7)).off + 6, none⟩) (by first | (rw [add_block]; omega) | (dsimp only; rw [add_block]; omega))).trans z6, (hb.cell (p := v'.add (k * 7)) (by first | (rw [add_block]; omega) | (dsimp only; rw [add_block]; omega))).trans y0, (hb.cell (p := ⟨(v'.add (k * 7)).block, (v'.add (k * 7)).off + 1, none⟩) (by first | (rw [add_block]; omega) | (dsimp only; rw [add_block]; omega))).trans y1, (hb.cell (p := ⟨(v'.add (k * 7)).block, (v'.add (k * 7)).off + 2, none⟩) (by first | (rw [add_block]; omega) | (dsimp only; rw [add_block]; omega))).trans y2, (hb.cell (p := ⟨(v'.add (k * 7)).block, (v'.add (k * 7)).off + 3, none⟩) (by first | (rw [add_block]; omega) | (dsimp only; rw [add_block]; omega))).trans y3, (hb.cell (p := ⟨(v'.add (k * 7)).block, (v'.add (k * 7)).off + 4, none⟩) (by first | (rw [add_block]; omega) | (dsimp only; rw [add_block]; omega))).trans y4, (hb.cell (p := ⟨(v'.add (k * 7)).block, (v'.add (k * 7)).off + 5, none⟩) (by first | (rw [add_block]; omega) | (dsimp only; rw [add_block]; omega))).trans y5, (hb.cell (p := ⟨(v'.add (k * 7)).block, (v'.add (k * 7)).off + 6, none⟩) (by first | (rw [add_block]; omega) | (dsimp only; rw [add_block]; omega))).trans y6, hb⟩
                    clear z0 z1 z2 z3 z4 z5 z6 y0 y1 y2 y3 y4 y5 y6 f0 f0' a3 b3
                    obtain ⟨s0, s1, s2, s3, s4, s5, s6, s7, s8, s9, s10, s11, s12, s13, s14, s15, s16, s17, s18⟩ := HS wr (Below.refl _ _)
                    have HS := Lib.hid HS
                    go_region_held3 (fun w' => w'.cell? ⟨W.heap.size, 3, none⟩ = some (.slice (some a) bs.length bc) ∧ w'.cell? ⟨W.heap.size + 1, 3, none⟩ = some (.slice (some a') bs'.length bc') ∧ w'.cell? (a.add i) = some (.slice (some v) bs[i].code.length bs[i].k) ∧ w'.cell? (a'.add i) = some (.slice (some v') bs'[i].code.length bs'[i].k) ∧ w'.cell? (v.add (k * 7)) = some (.int .i64 bs[i].code[k].1.op) ∧ w'.cell? ⟨(v.add (k * 7)).block, (v.add (k * 7)).off + 1, none⟩ = some (.int .i64 bs[i].code[k].1.reg) ∧ w'.cell? ⟨(v.add (k * 7)).block, (v.add (k * 7)).off + 2, none⟩ = some (.int .i64 bs[i].code[k].1.ty) ∧ w'.cell? ⟨(v.add (k * 7)).block, (v.add (k * 7)).off + 3, none⟩ = some (.int .i64 bs[i].code[k].1.n) ∧ w'.cell? ⟨(v.add (k * 7)).block, (v.add (k * 7)).off + 4, none⟩ = some (.int .i64 bs[i].code[k].1.fl) ∧ w'.cell? ⟨(v.add (k * 7)).block, (v.add (k * 7)).off + 5, none⟩ = some (.slice bs[i].code[k].1.ap bs[i].code[k].1.al bs[i].code[k].1.ac) ∧ w'.cell? ⟨(v.add (k * 7)).block, (v.add (k * 7)).off + 6, none⟩ = some (.slice bs[i].code[k].1.tp bs[i].code[k].1.tl bs[i].code[k].1.tc) ∧ w'.cell? (v'.add (k * 7)) = some (.int .i64 bs'[i].code[k].1.op) ∧ w'.cell? ⟨(v'.add (k * 7)).block, (v'.add (k * 7)).off + 1, none⟩ = some (.int .i64 bs'[i].code[k].1.reg) ∧ w'.cell? ⟨(v'.add (k * 7)).block, (v'.add (k * 7)).off + 2, none⟩ = some (.int .i64 bs'[i].code[k].1.ty) ∧ w'.cell? ⟨(v'.add (k * 7)).block, (v'.add (k * 7)).off + 3, none⟩ = some (.int .i64 bs'[i].code[k].1.n) ∧ w'.cell? ⟨(v'.add (k * 7)).block, (v'.add (k * 7)).off + 4, none⟩ = some (.int .i64 bs'[i].code[k].1.fl) ∧ w'.cell? ⟨(v'.add (k * 7)).block, (v'.add (k * 7)).off + 5, none⟩ = some (.slice bs'[i].code[k].1.ap bs'[i].code[k].1.al bs'[i].code[k].1.ac) ∧ w'.cell? ⟨(v'.add (k * 7)).block, (v'.add (k * 7)).off + 6, none⟩ = some (.slice bs'[i].code[k].1.tp bs'[i].code[k].1.tl bs'[i].code[k].1.tc) ∧ Below wr.heap.size wr w')
                      (((try dsimp only); (repeat' apply And.intro) <;> (first | (with_reducible assumption) | (rw [World.cell?_drew]; with_reducible assumption) | (with_reducible apply below_drew; with_reducible assumption))))
                      (first
                        | ((with_reducible refine (cI _ (by first | (with_reducible assumption) | (with_reducible apply below_drew; with_reducible assumption))).mono ?_); rintro e w' ⟨bt, rfl, hbt, hb'⟩; obtain ⟨r0, r1, r2, r3, r4, r5, r6, r7, r8, r9, r10, r11, r12, r13, r14, r15, r16, r17, r18⟩ := HS.out w' hb'))
                    all_goals (try go_wp2_with fail)
                    · rename_i hx
                      obtain rfl : bt = false := by simpa using hx
                      go_ret
                      refine ⟨false, rfl, ?_, P5.2.trans (hb'.mono P5.size)⟩
                      simp only [Bool.false_eq_true, false_iff] at hbt ⊢
                      intro e
                      have e2 : bs.map blkD = bs'.map blkD := congrArg PFn.bs e
                      have e3 : (bs.map blkD)[i]? = (bs'.map blkD)[i]? := by rw [e2]
                      rw [List.getElem?_map, List.getElem?_map, List.getElem?_eq_getElem hlt, List.getElem?_eq_getElem hlt'] at e3
                      have e4 : bs[i].code.map insD = bs'[i].code.map insD := Option.some.inj e3
                      have e5 : (bs[i].code.map insD)[k]? = (bs'[i].code.map insD)[k]? := by rw [e4]
                      rw [List.getElem?_map, List.getElem?_map, List.getElem?_eq_getElem hkl, List.getElem?_eq_getElem hkl'] at e5
                      exact hbt (Option.some.inj e5)
                    · rename_i hx
                      obtain rfl : bt = true := by simpa using hx
                      have hq := hbt.1 rfl
                      refine ⟨⟨k + 1, by omega, by go_num, hbi.trans (hb'.mono hbi.size), Lib.hid (fun j h1 h2 h3 => ?_)⟩, by simp [intOf]; omega⟩
                      by_cases e : j = k
                      · subst e; exact hq
                      · exact hEi.out j h1 h2 (by omega)
                  · obtain rfl : k = bs[i].code.length := by omega
                    go_wp2_with fail
                    refine ⟨⟨i + 1, by omega, by go_num, hbi, Lib.hid (fun j h1 h2 h3 => ?_)⟩, by simp [intOf]; omega⟩
                    by_cases e : j = i
                    · subst e
                      unfold blkD
                      exact list_ext (by simpa using Q0.out) (fun m m1 m2 => by simpa using hEi.out m (by simpa using m1) (by simpa using m2) (by simpa using m1))
                    · exact hE.out j h1 h2 (by omega)
              · have q1 : ((bs[i].code.length : Int) != (bs'[i].code.length : Int)) = true := by simp; omega
                have Q0 := Lib.hid q0
                clear q0
                go_wp2_with fail
                go_region
                all_goals (try go_wp2_with fail)
                all_goals go_ret
                exact ⟨false, rfl, by
                  simp only [Bool.false_eq_true, false_iff]
                  intro e
                  have e2 : bs.map blkD = bs'.map blkD := congrArg PFn.bs e
                  have e3 : (bs.map blkD)[i]? = (bs'.map blkD)[i]? := by rw [e2]
                  rw [List.getElem?_map, List.getElem?_map, List.getElem?_eq_getElem hlt, List.getElem?_eq_getElem hlt'] at e3
                  have e4 : blkD bs[i] = blkD bs'[i] := Option.some.inj e3
                  have e5 := congrArg List.length e4
                  unfold blkD at e5
                  rw [List.length_map, List.length_map] at e5
                  exact Q0.out e5, below_drew P4.2⟩
            · go_wp2_with fail
              go_ret
              refine ⟨true, rfl, ?_, P4.2⟩
              simp only [true_iff]
              have e2 : bs.map blkD = bs'.map blkD := list_ext (by simpa using E2.out) (fun m m1 m2 => by simpa using hE.out m (by simpa using m1) (by simpa using m2) (Nat.lt_of_lt_of_le (by simpa using m1) (by omega)))
              show (⟨nm, ps, rt, bs.map blkD⟩ : PFn) = ⟨nm, ps', rt', bs'.map blkD⟩
              rw [E1.out, EP.out, e2]
        · have g2 : ((bs.length : Int) != (bs'.length : Int)) = true := by simp; omega
          have E2 := Lib.hid e2
          clear e2
          go_wp2_with fail
          go_ret
          exact ⟨false, rfl, by
            simp only [Bool.false_eq_true, false_iff]
            intro e
            have e2 : bs.map blkD = bs'.map blkD := congrArg PFn.bs e
            have e5 := congrArg List.length e2
            rw [List.length_map, List.length_map] at e5
            exact E2.out e5, hP3.2⟩
      · have g1 : (rt != rt') = true := by simpa using e1
        have E1 := Lib.hid e1
        clear e1
        go_wp2_with fail
        go_ret
        exact ⟨false, rfl, by simp only [Bool.false_eq_true, false_iff]; exact fun e => E1.out (congrArg PFn.rt e), hP3.2⟩
    · have E0 := Lib.hid e0
      have g0 : ¬ nm.toList = nm'.toList := fun e => e0 (str_inj e)
      clear e0
      go_wp2_with fail
      go_ret
      exact ⟨false, rfl, by simp only [Bool.false_eq_true, false_iff]; exact fun e => E0.out (congrArg PFn.nm e), hP3.2⟩
end Go.Proofs.Ytpfeiolmkbibiaa
