/- The document's Tree. -/
import Derived.Test.YtphdhndljgihmaaRIdom
import Derived.Test.YtphdhndljgihmaaRPre
namespace Go.Proofs.Ytphdhndljgihmaa
open Go.RowKit Go.Maps
set_option linter.unusedVariables false
set_option linter.unusedSimpArgs false

set_option maxRecDepth 100000 in
set_option maxHeartbeats 4000000 in
theorem rTree_own (f : LFn) (W : World) (hf : FnIn W.heap.size W f) (hs : FnSm f) (hbs : f.bs.length ≤ 1048576) :
    Calls Try.prog 15 #[.agg (fnC f).toArray] W (OwnLL f.bs.length (fun t => ints (kids (succP (fnD f).bs) f.bs.length t)) W) := by
  have hmk := run_make_row' (P := Try.prog) 29 22 _ _ Try.underlying29 infoInts rfl .i64 .i64 f.bs.length (by omega) (by omega)
  have hP := (Past.refl (Nat.le_refl W.heap.size)).alloc (.cells (fnC f).toArray 25)
  have A1 : Box W.heap.size (fnC f) (W.alloc (.cells (fnC f).toArray 25)) := Box.new W rfl _ _
  have HN : Hid (∀ b, ∀ t ∈ succP (fnD f).bs b, t < f.bs.length) := Lib.hid (fun b t ht => by
    have := succP_lt _ _ t ht
    simpa [fnD] using this)
  have c1 := rIdom_own f (W.alloc (.cells (fnC f).toArray 25)) (past_lasts lasts_Fn hf hP) hs hbs
  obtain ⟨S, eS⟩ : ∃ S, succP (fnD f).bs = S := ⟨_, rfl⟩
  simp only [eS] at c1 HN ⊢
  obtain ⟨nm, pp, pn, pc, ps, rt, bp, bn, bc, bs⟩ := f
  obtain rfl : bn = bs.length := hf.2.1
  show Calls Try.prog 15 #[.agg #[.string nm, .slice pp pn pc, .int .i64 rt, .slice bp bs.length bc]] W _
  have hfc : fnC ⟨nm, pp, pn, pc, ps, rt, bp, bs.length, bc, bs⟩ = [.string nm, .slice pp pn pc, .int .i64 rt, .slice bp bs.length bc] := rfl
  rw [hfc] at A1 hP
  simp only [hfc] at c1
  obtain ⟨n, en⟩ : ∃ n, bs.length = n := ⟨_, rfl⟩
  simp only [en] at c1 A1 hP hbs HN hmk ⊢
  have a0 := A1.get 0 _ rfl
  have a1 := A1.get 1 _ rfl
  have a2 := A1.get 2 _ rfl
  have a3 := A1.get 3 _ rfl
  have HB := Lib.hid (And.intro hP A1)
  clear hP A1 hf hs eS hfc en
  go_enter Try.func15, Try.ntmps15
  go_wp2_with fail
  refine c1.mono ?_
  rintro e w1 ⟨R2, rfl, hp1, hR2, hup⟩
  have hPW := HB.out.1.trans ⟨HB.out.1.size, hp1.2.mono HB.out.1.size⟩
  have hbx := HB.out.2.later hp1.2
  have hR2l := hup.lt
  have hWl : W.heap.size < w1.heap.size := hbx.1
  have hL := LL.new w1 n
  have hrk := rowIs_kept hup (below_grown ((Below.refl w1.heap.size w1).alloc (Nat.le_refl _) (.cells (madeCells #[.slice none 0 0] n) 22))) (by simp)
  have I0 : PreI W [.string nm, .slice pp pn pc, .int .i64 rt, .slice bp n bc] w1.heap.size n (fun _ => .slice none 0 0) (fun t => ints (kids S 0 t)) (w1.alloc (.cells (madeCells #[.slice none 0 0] n) 22)) := ⟨hPW.alloc _, hbx.alloc _, hWl, hL⟩
  have HX := Lib.hid (And.intro I0 hrk)
  clear a0 a1 a2 a3 c1 hp1 hR2 hup hPW hbx hL hrk I0 HB
  obtain ⟨i0, hi, hz0, hz1, hz2⟩ := info_parts infoInt
  go_wp2_with fail
  clear hmk
  go_loopw [5] (fun t wr => ∃ (b : Nat) (vs : Nat → Value), b ≤ n ∧ t = .int .i64 b ∧ PreI W [.string nm, .slice pp pn pc, .int .i64 rt, .slice bp n bc] w1.heap.size n vs (fun t => ints (kids S b t)) wr ∧ wr.rowIs R2 3 n (fun b => .int .i64 (upI S b))) (fun t _ => n - (intOf t).toNat)
  case atStart => exact ⟨0, _, Nat.zero_le _, rfl, HX.out.1, HX.out.2⟩
  case round =>
    obtain ⟨b, vs2, hbn, rfl, hI2, hup2⟩ := hrel
    by_cases hlt : b < n
    · have hc := hup2.cell hlt
      have hks := fun a => kids_succ S b a
      rcases upI_cases S b with ⟨x, hux, eu⟩ | ⟨hno, eu⟩
      · simp only [eu] at hc hks
        have hx : x < n := rch_lt (show 0 < n by omega) HN.out hux.2.1.1
        have hrD := rowIs_kept hup2 (below_grown ((below_drew (Below.refl wr.heap.size wr)).alloc (Nat.le_refl _) (.cells #[.int .i64 b] 3))) (by simp)
        have hc1 := (rowIs_kept hup2 (below_grown ((Below.refl wr.heap.size wr).alloc (Nat.le_refl _) (.cells #[.int .i64 b] 3))) (by simp)).cell hlt
        simp only [eu] at hc1
        obtain ⟨q, cc, hq⟩ := hI2.ll.slice hx
        have hr0 := hI2.ll.row.cell hx
        have hr1 := (hI2.alloc (.cells #[.int .i64 b] 3)).ll.row.cell hx
        rw [hq] at hr0 hr1
        have hml : (ints (kids S b x)).length ≤ 1048577 := by
          rw [ints_len]
          have := kids_len S b x
          omega
        obtain ⟨M, eM⟩ : ∃ M, ints (kids S b x) = M := ⟨_, rfl⟩
        simp only [eM] at hq hr0 hr1 hml
        have HIA := Lib.hid (hI2.drew.alloc (.cells #[.int .i64 b] 3))
        have hown := HIA.out.ll.own x hx
        simp only [hq, eM] at hown
        have HQ := Lib.hid (And.intro hq (And.intro eM hown))
        have HST := Lib.hid hks
        have HU := Lib.hid (And.intro hrD eu)
        have hbig : w1.heap.size + 1 ≤ wr.heap.size := by have := hI2.ll.row.lt; omega
        have hd1 : decide ((0 : Int) ≤ (x : Int)) = true := by simp
        clear hI2 hq eM hown hks hup2 hux eu hrD
        go_wp2_with fail
        go_region_law (refine step_append_at rfl (.tmp 33) (.tmp 35) 22 rfl (w1.heap.size + 1) 3 i0 _ 1 8 Try.underlying22 hi hz0 hz1 hz2 rfl (by decide) (.slice q M.length cc) M.length (M.flatMap intC) rfl HQ.out.2.2 (some ⟨wr.heap.size, 0, none⟩) 1 1 [.int .i64 b] rfl rfl (lit_one _ _ _) (by intro u hu; simp at hu; subst hu; rfl) (by unfold maxLen; omega) (by omega) (by simp; omega) ?_
                       intro v6 w6 hown6 hgrow6 hmv6
                       obtain ⟨q6, c6, rfl⟩ := row_slice hown6
                       have hr6 := rowIs_kept HIA.out.ll.row hgrow6 (fun e => by have := (HQ.out.2.2.lt _ e.symm).1; omega)
                       have k0 := hr6.cell hx
                       have kf := hr6.frozen x
                       rw [HQ.out.1] at k0
                       have d6 := (rowIs_kept HU.out.1 hgrow6 (fun e => by have := (HQ.out.2.2.lt _ e.symm).1; omega)).cell hlt
                       rw [HU.out.2] at d6
                       have H6 := Lib.hid (And.intro hown6 (And.intro hgrow6 hmv6))
                       clear hr6 hown6 hgrow6 hmv6)
        all_goals
          go_wp2_with fail
          clear k0 kf d6
          have hnew := HIA.out.snoc hx (x := (b : Int)) (v' := .slice q6 (M.length + 1) c6) (by rw [HQ.out.2.1]; exact H6.out.1) (by rw [HQ.out.1]; exact H6.out.2.1) (by rw [HQ.out.1]; exact H6.out.2.2)
          refine ⟨⟨b + 1, _, by omega, by go_num, hnew.congr (fun j hj => ?_), (rowIs_kept HU.out.1 H6.out.2.1 (fun e => by have := (HQ.out.2.2.lt _ e.symm).1; omega)).setOther (by dsimp only; omega) _⟩, by simp [intOf]; omega⟩
          rw [HST.out j]
          by_cases e : j = x
          · subst e
            rw [if_pos rfl, if_pos rfl, ints_app]
            rfl
          · rw [if_neg e, if_neg (fun e2 => e (by omega)), List.append_nil]
      · simp only [eu] at hc hks
        have HZ := Lib.hid (And.intro hI2 (And.intro hup2 hks))
        clear hI2 hup2 hks hno eu
        go_wp2_with fail
        refine ⟨⟨b + 1, vs2, by omega, by go_num, HZ.out.1.congr (fun j hj => ?_), HZ.out.2.1⟩, by simp [intOf]; omega⟩
        rw [HZ.out.2.2 j, if_neg (by omega), List.append_nil]
    · obtain rfl : b = n := by omega
      have HZ := Lib.hid hI2
      clear hI2 hup2
      go_wp2_with fail
      go_ret
      exact ⟨w1.heap.size, vs2, rfl, HZ.out.past, Nat.le_of_lt hWl, HZ.out.ll⟩
end Go.Proofs.Ytphdhndljgihmaa
