/- Package ir: sameness of instructions, blocks, functions. -/
import Derived.Test.YtpfeiolmkbibiaaOwnR
namespace Go.Proofs.Ytpfeiolmkbibiaa
open Go.RowKit Go.Maps
set_option linter.unusedVariables false
set_option linter.unusedSimpArgs false

set_option maxRecDepth 100000 in
set_option maxHeartbeats 1000000 in
theorem sameInstr_any (x y : LI) (W : World) (h : InsIn W.heap.size W x) (h' : InsIn W.heap.size W y) :
    Calls Try.prog 70 #[.agg (liC x).toArray, .agg (liC y).toArray] W (Tells (insD x = insD y) W) := by
  obtain ⟨⟨op, rg, ty, nn, fl, ap, al, ac, tp, tl, tc, args⟩, ts⟩ := x
  obtain ⟨⟨op', rg', ty', nn', fl', ap', al', ac', tp', tl', tc', args'⟩, ts'⟩ := y
  have H := Lib.hid h
  have H' := Lib.hid h'
  clear h h'
  show Calls Try.prog 70 #[.agg #[.int .i64 op, .int .i64 rg, .int .i64 ty, .int .i64 nn, .int .i64 fl, .slice ap al ac, .slice tp tl tc], .agg #[.int .i64 op', .int .i64 rg', .int .i64 ty', .int .i64 nn', .int .i64 fl', .slice ap' al' ac', .slice tp' tl' tc']] W _
  have hP := (Past.refl (Nat.le_refl W.heap.size)).alloc (.cells #[.int .i64 op, .int .i64 rg, .int .i64 ty, .int .i64 nn, .int .i64 fl, .slice ap al ac, .slice tp tl tc] 25)
  have A1 : Box W.heap.size [.int .i64 op, .int .i64 rg, .int .i64 ty, .int .i64 nn, .int .i64 fl, .slice ap al ac, .slice tp tl tc] (W.alloc (.cells #[.int .i64 op, .int .i64 rg, .int .i64 ty, .int .i64 nn, .int .i64 fl, .slice ap al ac, .slice tp tl tc] 25)) := Box.new W rfl _ _
  have z1 : (W.alloc (.cells #[.int .i64 op, .int .i64 rg, .int .i64 ty, .int .i64 nn, .int .i64 fl, .slice ap al ac, .slice tp tl tc] 25)).heap.size = W.heap.size + 1 := by simp
  go_enter Try.func70, Try.ntmps70
  go_upto_region 1 with fail
  generalize (W.alloc (.cells #[.int .i64 op, .int .i64 rg, .int .i64 ty, .int .i64 nn, .int .i64 fl, .slice ap al ac, .slice tp tl tc] 25)) = w1 at *
  have hP2 := hP.alloc (.cells #[.int .i64 op', .int .i64 rg', .int .i64 ty', .int .i64 nn', .int .i64 fl', .slice ap' al' ac', .slice tp' tl' tc'] 25)
  have A2 := A1.alloc (.cells #[.int .i64 op', .int .i64 rg', .int .i64 ty', .int .i64 nn', .int .i64 fl', .slice ap' al' ac', .slice tp' tl' tc'] 25)
  have B2 : Box (W.heap.size + 1) [.int .i64 op', .int .i64 rg', .int .i64 ty', .int .i64 nn', .int .i64 fl', .slice ap' al' ac', .slice tp' tl' tc'] (w1.alloc (.cells #[.int .i64 op', .int .i64 rg', .int .i64 ty', .int .i64 nn', .int .i64 fl', .slice ap' al' ac', .slice tp' tl' tc'] 25)) := Box.new w1 (by omega) _ _
  generalize (w1.alloc (.cells #[.int .i64 op', .int .i64 rg', .int .i64 ty', .int .i64 nn', .int .i64 fl', .slice ap' al' ac', .slice tp' tl' tc'] 25)) = w2 at *
  have a0 := A2.get 0 _ rfl
  have a1 := A2.get 1 _ rfl
  have a2 := A2.get 2 _ rfl
  have a3 := A2.get 3 _ rfl
  have a4 := A2.get 4 _ rfl
  have a5 := A2.get 5 _ rfl
  have a6 := A2.get 6 _ rfl
  have b0 := B2.get 0 _ rfl
  have b1 := B2.get 1 _ rfl
  have b2 := B2.get 2 _ rfl
  have b3 := B2.get 3 _ rfl
  have b4 := B2.get 4 _ rfl
  have b5 := B2.get 5 _ rfl
  have b6 := B2.get 6 _ rfl
  clear A1 hP z1
  by_cases e0 : op = op'
  · have g0 : (op == op') = true := by simp [e0]
    have E0 := Lib.hid e0
    clear e0
    by_cases e1 : rg = rg'
    · have g1 : (rg == rg') = true := by simp [e1]
      have E1 := Lib.hid e1
      clear e1
      by_cases e2 : ty = ty'
      · have g2 : (ty == ty') = true := by simp [e2]
        have E2 := Lib.hid e2
        clear e2
        by_cases e3 : nn = nn'
        · have g3 : (nn == nn') = true := by simp [e3]
          have E3 := Lib.hid e3
          clear e3
          by_cases e4 : fl = fl'
          · have g4 : (fl == fl') = true := by simp [e4]
            have E4 := Lib.hid e4
            clear e4
            go_wp2_with fail
            refine (EqVals_any w2 ap ap' al al' ac ac' args args' (H.out.1.lasts lasts_NoMem hP2.2 hP2.2.size) (H'.out.1.lasts lasts_NoMem hP2.2 hP2.2.size)).mono ?_
            rintro e w3 ⟨bt, rfl, hbt, hb3⟩
            have HBT := Lib.hid hbt
            clear hbt
            have P3 := hP2.trans ⟨hP2.size, hb3.mono hP2.size⟩
            have A3 := A2.later hb3
            have B3 := B2.later hb3
            clear a0 a1 a2 a3 a4 a5 a6 b0 b1 b2 b3 b4 b5 b6
            have a6 := A3.get 6 _ rfl
            have b6 := B3.get 6 _ rfl
            cases bt
            · go_wp2_with fail
              go_ret
              exact ⟨false, rfl, by simp only [Bool.false_eq_true, false_iff]; exact fun e => Bool.noConfusion (HBT.out.2 (congrArg PIns.args e)), P3.2⟩
            · have hA := Lib.hid (HBT.out.1 rfl)
              clear HBT
              go_wp2_with fail
              refine (EqInts_any w3 tp tp' tl tl' tc tc' ts ts' (H.out.2.lasts lasts_NoMem P3.2 P3.2.size) (H'.out.2.lasts lasts_NoMem P3.2 P3.2.size)).mono ?_
              rintro e w4 ⟨bt, rfl, hbt, hb4⟩
              have HBT := Lib.hid hbt
              clear hbt
              go_wp2_with fail
              go_ret
              refine ⟨bt, rfl, HBT.out.trans ?_, P3.2.trans (hb4.mono P3.size)⟩
              constructor
              · intro e
                show (⟨op, rg, ty, nn, fl, args, ts⟩ : PIns) = ⟨op', rg', ty', nn', fl', args', ts'⟩
                rw [E0.out, E1.out, E2.out, E3.out, E4.out, hA.out, e]
              · exact fun e => congrArg PIns.tg e
          · have g4 : (fl == fl') = false := by simpa using e4
            have E4 := Lib.hid e4
            clear e4
            go_wp2_with fail
            go_ret
            exact ⟨false, rfl, by simp only [Bool.false_eq_true, false_iff]; intro e; exact E4.out (congrArg (fun z : PIns => z.fl) e), hP2.2⟩
        · have g3 : (nn == nn') = false := by simpa using e3
          have E3 := Lib.hid e3
          clear e3
          go_wp2_with fail
          go_ret
          exact ⟨false, rfl, by simp only [Bool.false_eq_true, false_iff]; intro e; exact E3.out (congrArg (fun z : PIns => z.n) e), hP2.2⟩
      · have g2 : (ty == ty') = false := by simpa using e2
        have E2 := Lib.hid e2
        clear e2
        go_wp2_with fail
        go_ret
        exact ⟨false, rfl, by simp only [Bool.false_eq_true, false_iff]; intro e; exact E2.out (congrArg (fun z : PIns => z.ty) e), hP2.2⟩
    · have g1 : (rg == rg') = false := by simpa using e1
      have E1 := Lib.hid e1
      clear e1
      go_wp2_with fail
      go_ret
      exact ⟨false, rfl, by simp only [Bool.false_eq_true, false_iff]; intro e; exact E1.out (congrArg (fun z : PIns => z.reg) e), hP2.2⟩
  · have g0 : (op == op') = false := by simpa using e0
    have E0 := Lib.hid e0
    clear e0
    go_wp2_with fail
    go_ret
    exact ⟨false, rfl, by simp only [Bool.false_eq_true, false_iff]; intro e; exact E0.out (congrArg (fun z : PIns => z.op) e), hP2.2⟩

theorem enters_si : ∀ (args : Array Value) (w : World), (callFunc 70 args).run Try.prog w = .ok (.enter 70 args) w := fun _ _ => rfl
theorem enters_sb : ∀ (args : Array Value) (w : World), (callFunc 63 args).run Try.prog w = .ok (.enter 63 args) w := fun _ _ => rfl
set_option maxRecDepth 100000 in
set_option maxHeartbeats 1000000 in
theorem sameBlock_any (x y : LB) (W : World) (h : BlkIn W.heap.size W x) (h' : BlkIn W.heap.size W y) :
    Calls Try.prog 63 #[.agg (blkC x).toArray, .agg (blkC y).toArray] W (Tells (blkD x = blkD y) W) := by
  have H := Lib.hid h
  have H' := Lib.hid h'
  clear h h'
  show Calls Try.prog 63 #[.agg #[.slice x.p x.n x.k], .agg #[.slice y.p y.n y.k]] W _
  have P2 := ((Past.refl (Nat.le_refl W.heap.size)).alloc (.cells #[.slice x.p x.n x.k] 67)).alloc (.cells #[.slice y.p y.n y.k] 67)
  have hc := EqFunc_C 70 enters_si sameInstr_any _ x.p y.p x.n y.n x.k y.k x.code y.code (ListIn.lasts lasts_Ins H.out P2.2 P2.2.size) (ListIn.lasts lasts_Ins H'.out P2.2 P2.2.size)
  have HC := Lib.hid hc
  clear hc
  go_enter Try.func63, Try.ntmps63
  go_wp2_with fail
  refine HC.out.mono ?_
  rintro e w3 ⟨bt, rfl, hbt, hb3⟩
  have HBT := Lib.hid hbt
  clear hbt
  go_wp2_with fail
  go_ret
  exact ⟨bt, rfl, HBT.out, P2.2.trans (hb3.mono P2.size)⟩
set_option maxRecDepth 100000 in
set_option maxHeartbeats 1000000 in
theorem SameFunc_any (x y : LFn) (W : World) (h : FnIn W.heap.size W x) (h' : FnIn W.heap.size W y) :
    Calls Try.prog 37 #[.agg (fnC x).toArray, .agg (fnC y).toArray] W (Tells (fnD x = fnD y) W) := by
  obtain ⟨nm, pp, pn, pc, ps, rt, bp, bn, bc, bs⟩ := x
  obtain ⟨nm', pp', pn', pc', ps', rt', bp', bn', bc', bs'⟩ := y
  have H := Lib.hid h
  have H' := Lib.hid h'
  clear h h'
  show Calls Try.prog 37 #[.agg #[.string nm, .slice pp pn pc, .int .i64 rt, .slice bp bn bc], .agg #[.string nm', .slice pp' pn' pc', .int .i64 rt', .slice bp' bn' bc']] W _
  have hP := (Past.refl (Nat.le_refl W.heap.size)).alloc (.cells #[.string nm, .slice pp pn pc, .int .i64 rt, .slice bp bn bc] 41)
  have A1 : Box W.heap.size [.string nm, .slice pp pn pc, .int .i64 rt, .slice bp bn bc] (W.alloc (.cells #[.string nm, .slice pp pn pc, .int .i64 rt, .slice bp bn bc] 41)) := Box.new W rfl _ _
  have z1 : (W.alloc (.cells #[.string nm, .slice pp pn pc, .int .i64 rt, .slice bp bn bc] 41)).heap.size = W.heap.size + 1 := by simp
  go_enter Try.func37, Try.ntmps37
  go_upto_region 1 with fail
  generalize (W.alloc (.cells #[.string nm, .slice pp pn pc, .int .i64 rt, .slice bp bn bc] 41)) = w1 at *
  have hP2 := hP.alloc (.cells #[.string nm', .slice pp' pn' pc', .int .i64 rt', .slice bp' bn' bc'] 41)
  have A2 := A1.alloc (.cells #[.string nm', .slice pp' pn' pc', .int .i64 rt', .slice bp' bn' bc'] 41)
  have B2 : Box (W.heap.size + 1) [.string nm', .slice pp' pn' pc', .int .i64 rt', .slice bp' bn' bc'] (w1.alloc (.cells #[.string nm', .slice pp' pn' pc', .int .i64 rt', .slice bp' bn' bc'] 41)) := Box.new w1 (by omega) _ _
  generalize (w1.alloc (.cells #[.string nm', .slice pp' pn' pc', .int .i64 rt', .slice bp' bn' bc'] 41)) = w2 at *
  have a0 := A2.get 0 _ rfl
  have a1 := A2.get 1 _ rfl
  have a2 := A2.get 2 _ rfl
  have a3 := A2.get 3 _ rfl
  have b0 := B2.get 0 _ rfl
  have b1 := B2.get 1 _ rfl
  have b2 := B2.get 2 _ rfl
  have b3 := B2.get 3 _ rfl
  clear A1 hP z1
  by_cases e0 : nm = nm'
  · subst e0
    by_cases e1 : rt = rt'
    · have g1 : (rt == rt') = true := by simp [e1]
      have E1 := Lib.hid e1
      clear e1
      go_wp2_with fail
      refine (EqInts_any w2 pp pp' pn pn' pc pc' ps ps' (H.out.1.lasts lasts_NoMem hP2.2 hP2.2.size) (H'.out.1.lasts lasts_NoMem hP2.2 hP2.2.size)).mono ?_
      rintro e w3 ⟨bt, rfl, hbt, hb3⟩
      have HBT := Lib.hid hbt
      clear hbt
      have P3 := hP2.trans ⟨hP2.size, hb3.mono hP2.size⟩
      have A3 := A2.later hb3
      have B3 := B2.later hb3
      clear a0 a1 a2 a3 b0 b1 b2 b3
      have a3 := A3.get 3 _ rfl
      have b3 := B3.get 3 _ rfl
      cases bt
      · go_wp2_with fail
        go_ret
        exact ⟨false, rfl, by simp only [Bool.false_eq_true, false_iff]; exact fun e => Bool.noConfusion (HBT.out.2 (congrArg PFn.ps e)), P3.2⟩
      · have hA := Lib.hid (HBT.out.1 rfl)
        clear HBT
        go_wp2_with fail
        refine (EqFunc_B 63 enters_sb sameBlock_any w3 bp bp' bn bn' bc bc' bs bs' (H.out.2.lasts lasts_Blk P3.2 P3.2.size) (H'.out.2.lasts lasts_Blk P3.2 P3.2.size)).mono ?_
        rintro e w4 ⟨bt, rfl, hbt, hb4⟩
        have HBT := Lib.hid hbt
        clear hbt
        go_wp2_with fail
        go_ret
        refine ⟨bt, rfl, HBT.out.trans ?_, P3.2.trans (hb4.mono P3.size)⟩
        constructor
        · intro e
          show (⟨nm, ps, rt, bs.map blkD⟩ : PFn) = ⟨nm, ps', rt', bs'.map blkD⟩
          rw [E1.out, hA.out, e]
        · exact fun e => congrArg PFn.bs e
    · have g1 : (rt == rt') = false := by simpa using e1
      have E1 := Lib.hid e1
      clear e1
      go_wp2_with fail
      go_ret
      exact ⟨false, rfl, by simp only [Bool.false_eq_true, false_iff]; exact fun e => E1.out (congrArg PFn.rt e), hP2.2⟩
  · have E0 := Lib.hid e0
    have g0 : ¬ nm.toList = nm'.toList := fun e => e0 (str_inj e)
    clear e0
    go_wp2_with fail
    go_ret
    exact ⟨false, rfl, by simp only [Bool.false_eq_true, false_iff]; exact fun e => E0.out (congrArg PFn.nm e), hP2.2⟩
end Go.Proofs.Ytpfeiolmkbibiaa
