/- Package ir: slices.Equal of variables, ir.Same. -/
import Derived.Test.YtpfeiolmkbibiaaOwnV
namespace Go.Proofs.Ytpfeiolmkbibiaa
open Go.RowKit Go.Maps
set_option linter.unusedVariables false
set_option linter.unusedSimpArgs false
theorem var_ext {x y : PVar} (h : x.nm = y.nm) (k : x.size = y.size) : x = y := by
  obtain ⟨a, b⟩ := x
  obtain ⟨c, d⟩ := y
  obtain rfl : a = c := h
  obtain rfl : b = d := k
  rfl
theorem var_row {B : Nat} {w : World} {p : Option Addr} {n c : Nat} {L : List PVar} {E : Nat → World → PVar → Prop} (h : ListIn varC E B w p n c L) (i : Nat) (hi : i < L.length) :
    ∃ a, p = some a ∧ a.block < B ∧ w.cell? (a.add (i * 2)) = some (.string L[i].nm) ∧ w.cell? ⟨(a.add (i * 2)).block, (a.add (i * 2)).off + 1, none⟩ = some (.int .i64 L[i].size) := by
  obtain ⟨h1, h2, h3, h4, -⟩ := h
  obtain ⟨a, e, ha, hc⟩ := h4.at (m := 2) (fun _ => rfl) i hi (by decide)
  refine ⟨a, e, ha, hc 0 (by decide), ?_⟩
  have := hc 1 (by decide); rw [add_add a _ 1 (by decide)] at this; exact this
set_option maxRecDepth 100000 in
set_option maxHeartbeats 2000000 in
theorem EqVars_any (W : World) (p p' : Option Addr) (n n' c c' : Nat) (ts ts' : List PVar) (h : ListIn varC NoMem W.heap.size W p n c ts) (h' : ListIn varC NoMem W.heap.size W p' n' c' ts') :
    Calls Try.prog 43 #[.slice p n c, .slice p' n' c'] W (Tells (ts = ts') W) := by
  obtain rfl : n = ts.length := h.1
  obtain rfl : n' = ts'.length := h'.1
  have k2 := h.2.1
  have k3 := h.2.2.1
  have k2' := h'.2.1
  have k3' := h'.2.2.1
  unfold maxLen at k3 k3'
  have H := Lib.hid h
  have H' := Lib.hid h'
  clear h h'
  go_enter Try.func43, Try.ntmps43
  by_cases hl : ts.length = ts'.length
  · have hl2 : ((ts.length : Int) != (ts'.length : Int)) = false := by simp [hl]
    have HL := Lib.hid hl
    clear hl
    go_wp2_with fail
    go_loopw [13] (fun t wr => ∃ k : Nat, k ≤ ts.length ∧ t = .int .i64 k ∧ Below W.heap.size W wr ∧ Hid (∀ i (h1 : i < ts.length) (h2 : i < ts'.length), i < k → ts[i] = ts'[i])) (fun t _ => ts.length - (intOf t).toNat)
    case atStart => exact ⟨0, Nat.zero_le _, rfl, Below.refl _ _, Lib.hid (fun i _ _ h => absurd h (Nat.not_lt_zero i))⟩
    case round =>
      obtain ⟨k, hk, rfl, hb, hE⟩ := hrel
      by_cases hlt : k < ts.length
      · have hlt' : k < ts'.length := by have := HL.out; omega
        obtain ⟨a, rfl, ha, hc0, hc1⟩ := var_row H.out k hlt
        obtain ⟨a', rfl, ha', hc0', hc1'⟩ := var_row H'.out k hlt'
        have f0 := (hb.cell (p := a.add (k * 2)) (blk_add a _ ha)).trans hc0
        have f1 := (hb.cell (p := ⟨(a.add (k * 2)).block, (a.add (k * 2)).off + 1, none⟩) (blk_add a _ ha)).trans hc1
        have f0' := (hb.cell (p := a'.add (k * 2)) (blk_add a' _ ha')).trans hc0'
        have f1' := (hb.cell (p := ⟨(a'.add (k * 2)).block, (a'.add (k * 2)).off + 1, none⟩) (blk_add a' _ ha')).trans hc1'
        clear hc0 hc1 hc0' hc1'
        by_cases q0 : ts[k].nm = ts'[k].nm ∧ ts[k].size = ts'[k].size
        · have HQ : Hid (ts[k] = ts'[k]) := Lib.hid (var_ext q0.1 q0.2)
          obtain ⟨q1, q2⟩ := q0
          rw [← q1] at f0'
          rw [← q2] at f1'
          clear q1 q2
          go_wp2_with fail
          go_region
          all_goals go_wp2
          all_goals exact ⟨⟨k + 1, by omega, by go_num, by first | exact hb | exact below_drew hb, Lib.hid (fun i h1 h2 h3 => by
            by_cases e : i = k
            · subst e; exact HQ.out
            · exact hE.out i h1 h2 (by omega))⟩, by simp [intOf]; omega⟩
        · have HQ : Hid (¬ ts[k] = ts'[k]) := Lib.hid (fun e => q0 ⟨by rw [e], by rw [e]⟩)
          by_cases q1 : ts[k].nm = ts'[k].nm
          · rw [← q1] at f0'
            have q2 : ¬ ts[k].size = ts'[k].size := fun q2 => q0 ⟨q1, q2⟩
            clear q0 q1
            go_wp2_with fail
            go_region
            all_goals go_wp2
            all_goals go_ret
            all_goals exact ⟨false, rfl, by simp only [Bool.false_eq_true, false_iff]; intro e; subst e; exact HQ.out rfl, by first | exact hb | exact below_drew hb⟩
          · clear q0
            have q3 : ¬ ts[k].nm.toList = ts'[k].nm.toList := fun e => q1 (str_inj e)
            go_wp2_with fail
            go_region
            all_goals go_wp2
            all_goals go_ret
            all_goals exact ⟨false, rfl, by simp only [Bool.false_eq_true, false_iff]; intro e; subst e; exact HQ.out rfl, by first | exact hb | exact below_drew hb⟩
      · go_wp2_with fail
        go_ret
        refine ⟨true, rfl, ?_, hb⟩
        simp only [true_iff]
        exact list_ext HL.out (fun i h1 h2 => hE.out i h1 h2 (by omega))
  · have hl2 : ((ts.length : Int) != (ts'.length : Int)) = true := by simp; omega
    have HL := Lib.hid hl
    clear hl
    go_wp2_with fail
    go_ret
    exact ⟨false, rfl, by simp only [Bool.false_eq_true, false_iff]; intro e; subst e; exact HL.out rfl, Below.refl _ _⟩


set_option maxRecDepth 100000 in
set_option maxHeartbeats 1000000 in
theorem Same_any (x y : LMod) (W : World) (h : ModIn W.heap.size W x) (h' : ModIn W.heap.size W y) :
    Calls Try.prog 20 #[.agg (modC x).toArray, .agg (modC y).toArray] W (Tells (modD x = modD y) W) := by
  obtain ⟨vp, vn, vc, vs, xp, xn, xc, xs, fp, fn, fc, fs⟩ := x
  obtain ⟨vp', vn', vc', vs', xp', xn', xc', xs', fp', fn', fc', fs'⟩ := y
  have H := Lib.hid h
  have H' := Lib.hid h'
  clear h h'
  show Calls Try.prog 20 #[.agg #[.slice vp vn vc, .slice xp xn xc, .slice fp fn fc], .agg #[.slice vp' vn' vc', .slice xp' xn' xc', .slice fp' fn' fc']] W _
  have hP := (Past.refl (Nat.le_refl W.heap.size)).alloc (.cells #[.slice vp vn vc, .slice xp xn xc, .slice fp fn fc] 34)
  have A1 : Box W.heap.size [.slice vp vn vc, .slice xp xn xc, .slice fp fn fc] (W.alloc (.cells #[.slice vp vn vc, .slice xp xn xc, .slice fp fn fc] 34)) := Box.new W rfl _ _
  have z1 : (W.alloc (.cells #[.slice vp vn vc, .slice xp xn xc, .slice fp fn fc] 34)).heap.size = W.heap.size + 1 := by simp
  go_enter Try.func20, Try.ntmps20
  have hP2 := hP.alloc (.cells #[.slice vp' vn' vc', .slice xp' xn' xc', .slice fp' fn' fc'] 34)
  have A2 := A1.alloc (.cells #[.slice vp' vn' vc', .slice xp' xn' xc', .slice fp' fn' fc'] 34)
  have B2 : Box (W.heap.size + 1) [.slice vp' vn' vc', .slice xp' xn' xc', .slice fp' fn' fc'] ((W.alloc (.cells #[.slice vp vn vc, .slice xp xn xc, .slice fp fn fc] 34)).alloc (.cells #[.slice vp' vn' vc', .slice xp' xn' xc', .slice fp' fn' fc'] 34)) := Box.new _ (by omega) _ _
  go_upto_region 1 with fail
  generalize ((W.alloc (.cells #[.slice vp vn vc, .slice xp xn xc, .slice fp fn fc] 34)).alloc (.cells #[.slice vp' vn' vc', .slice xp' xn' xc', .slice fp' fn' fc'] 34)) = w2 at *
  have a0 := A2.get 0 _ rfl
  have b0 := B2.get 0 _ rfl
  clear A1 hP z1
  go_wp2_with fail
  refine (EqVars_any w2 vp vp' vn vn' vc vc' vs vs' (H.out.1.lasts lasts_NoMem hP2.2 hP2.2.size) (H'.out.1.lasts lasts_NoMem hP2.2 hP2.2.size)).mono ?_
  rintro e w3 ⟨bt, rfl, hbt, hb3⟩
  have HBT := Lib.hid hbt
  clear hbt
  have P3 := hP2.trans ⟨hP2.size, hb3.mono hP2.size⟩
  have A3 := A2.later hb3
  have B3 := B2.later hb3
  clear a0 b0 A2 B2 hb3
  have a1 := A3.get 1 _ rfl
  have b1 := B3.get 1 _ rfl
  cases bt
  · go_wp2_with fail
    go_ret
    exact ⟨false, rfl, by simp only [Bool.false_eq_true, false_iff]; exact fun e => Bool.noConfusion (HBT.out.2 (congrArg PMod.vs e)), P3.2⟩
  · have hA := Lib.hid (HBT.out.1 rfl)
    clear HBT
    go_wp2_with fail
    refine (EqFunc_X 45 enters_sx sameExtern_any w3 xp xp' xn xn' xc xc' xs xs' (H.out.2.1.lasts lasts_Ext P3.2 P3.2.size) (H'.out.2.1.lasts lasts_Ext P3.2 P3.2.size)).mono ?_
    rintro e w4 ⟨bt, rfl, hbt, hb4⟩
    have HBT := Lib.hid hbt
    clear hbt
    have P4 := P3.trans ⟨P3.size, hb4.mono P3.size⟩
    have A4 := A3.later hb4
    have B4 := B3.later hb4
    clear a1 b1 A3 B3 hb4
    have a2 := A4.get 2 _ rfl
    have b2 := B4.get 2 _ rfl
    cases bt
    · go_wp2_with fail
      go_ret
      exact ⟨false, rfl, by simp only [Bool.false_eq_true, false_iff]; exact fun e => Bool.noConfusion (HBT.out.2 (congrArg PMod.xs e)), P4.2⟩
    · have hB := Lib.hid (HBT.out.1 rfl)
      clear HBT
      go_wp2_with fail
      refine (EqFunc_F 37 enters_sf SameFunc_any w4 fp fp' fn fn' fc fc' fs fs' (H.out.2.2.lasts lasts_Fn P4.2 P4.2.size) (H'.out.2.2.lasts lasts_Fn P4.2 P4.2.size)).mono ?_
      rintro e w5 ⟨bt, rfl, hbt, hb5⟩
      have HBT := Lib.hid hbt
      clear hbt
      go_wp2_with fail
      go_ret
      refine ⟨bt, rfl, HBT.out.trans ?_, P4.2.trans (hb5.mono P4.size)⟩
      constructor
      · intro e
        show (⟨vs, xs.map extD, fs.map fnD⟩ : PMod) = ⟨vs', xs'.map extD, fs'.map fnD⟩
        rw [hA.out, hB.out, e]
      · exact fun e => congrArg PMod.fs e
end Go.Proofs.Ytpfeiolmkbibiaa
