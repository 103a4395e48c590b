/- Package dom: Tree. -/
import Derived.Test.YtphdhndljgihmaaIdom
import Derived.Test.YtphdhndljgihmaaDList
import Derived.Test.YtphdhndljgihmaaGPreB
namespace Go.Proofs.Ytphdhndljgihmaa
open Go.RowKit Go.Maps
set_option linter.unusedVariables false
set_option linter.unusedSimpArgs false

set_option maxRecDepth 100000 in
set_option maxHeartbeats 4000000 in
theorem Tree_own (f : LFn) (W : World) (hf : FnIn W.heap.size W f) (hs : FnSm f) (hbs : f.bs.length ≤ 1048576) :
    Calls Try.prog 13 #[.agg (fnC f).toArray] W (OwnLL f.bs.length (fun t => ints (kids (succP (fnD f).bs) f.bs.length t)) W) := by
  have hmk := run_make_row' (P := Try.prog) 29 22 _ _ Try.underlying29 infoInts rfl .i64 .i64 f.bs.length (by omega) (by omega)
  have hP := (Past.refl (Nat.le_refl W.heap.size)).alloc (.cells (fnC f).toArray 25)
  have A1 : Box W.heap.size (fnC f) (W.alloc (.cells (fnC f).toArray 25)) := Box.new W rfl _ _
  have HN : Hid (∀ b, ∀ t ∈ succP (fnD f).bs b, t < f.bs.length) := Lib.hid (fun b t ht => by
    have := succP_lt _ _ t ht
    simpa [fnD] using this)
  have cF : ∀ w, Past W.heap.size W w → FnIn w.heap.size w f := fun w h => past_lasts lasts_Fn hf h
  have cI : ∀ (w : World), Past W.heap.size W w → Calls Try.prog 18 #[.agg (fnC f).toArray] w (OwnUp (succP (fnD f).bs) f.bs.length w) := fun w h => Idom_own f w (cF w h) hs hbs
  obtain ⟨S, eS⟩ : ∃ S, succP (fnD f).bs = S := ⟨_, rfl⟩
  simp only [eS] at cI HN ⊢
  obtain ⟨nm, pp, pn, pc, ps, rt, bp, bn, bc, bs⟩ := f
  obtain rfl : bn = bs.length := hf.2.1
  show Calls Try.prog 13 #[.agg #[.string nm, .slice pp pn pc, .int .i64 rt, .slice bp bs.length bc]] W _
  have hfc : fnC ⟨nm, pp, pn, pc, ps, rt, bp, bs.length, bc, bs⟩ = [.string nm, .slice pp pn pc, .int .i64 rt, .slice bp bs.length bc] := rfl
  rw [hfc] at A1 hP
  simp only [hfc] at cI
  obtain ⟨n, en⟩ : ∃ n, bs.length = n := ⟨_, rfl⟩
  simp only [en] at cI A1 hP hbs HN hmk ⊢
  have a3 := A1.get 3 _ rfl
  have HC := Lib.hid cI
  have HB := Lib.hid (And.intro hP A1)
  clear cI hP A1 cF hf hs eS hfc en
  go_enter Try.func13, Try.ntmps13
  have I0 : PreI W [.string nm, .slice pp pn pc, .int .i64 rt, .slice bp n bc] (W.heap.size + 1) n (fun _ => .slice none 0 0) (fun t => ints (kids S 0 t)) ((W.alloc (.cells #[.string nm, .slice pp pn pc, .int .i64 rt, .slice bp n bc] 25)).alloc (.cells (madeCells #[.slice none 0 0] n) 22)) := by
    have h := LL.new (W.alloc (.cells #[.string nm, .slice pp pn pc, .int .i64 rt, .slice bp n bc] 25)) n
    rw [World.size_alloc] at h
    exact ⟨HB.out.1.alloc _, HB.out.2.alloc _, Nat.lt_succ_self _, h⟩
  have b0 := I0.box.get 0 _ rfl
  have b1 := I0.box.get 1 _ rfl
  have b2 := I0.box.get 2 _ rfl
  have b3 := I0.box.get 3 _ rfl
  have c1 := HC.out _ I0.past
  have HI0 := Lib.hid I0
  clear I0
  go_wp2_with fail
  clear hmk a3
  refine c1.mono ?_
  rintro e w1 ⟨R2, rfl, hp1, hR2, hup⟩
  have I1 := HI0.out.later hp1.2
  have hR2l := hup.lt
  have hR1 := HI0.out.ll.row.lt
  have HX := Lib.hid (And.intro I1 hup)
  have b3 := I1.box.get 3 _ rfl
  clear c1 I1 hup b0 b1 b2 hp1 HI0
  obtain ⟨i0, hi, hz0, hz1, hz2⟩ := info_parts infoInt
  go_wp2_with fail
  clear b3
  go_loopw [16] (fun t wr => ∃ (b : Nat) (vs : Nat → Value), b ≤ n ∧ t = .int .i64 b ∧ PreI W [.string nm, .slice pp pn pc, .int .i64 rt, .slice bp n bc] (W.heap.size + 1) n vs (fun t => ints (kids S b t)) wr ∧ wr.rowIs R2 3 n (fun b => .int .i64 (upI S b)) ∧ (∀ j, j < n → ∀ g, (vs j).ownBlock = some g → w1.heap.size ≤ g) ∧ w1.heap.size ≤ wr.heap.size) (fun t _ => n - (intOf t).toNat)
  case atStart => exact ⟨0, _, Nat.zero_le _, rfl, HX.out.1, HX.out.2, fun j hj g e => by simp [Value.ownBlock] at e, Nat.le_refl _⟩
  case round =>
    obtain ⟨b, vs2, hbn, rfl, hI2, hup2, hsep, hw2⟩ := hrel
    by_cases hlt : b < n
    · have hc := hup2.cell hlt
      have hks := fun a => kids_succ S b a
      rcases upI_cases S b with ⟨x, hux, eu⟩ | ⟨hno, eu⟩
      · simp only [eu] at hc hks
        have hx : x < n := rch_lt (show 0 < n by omega) HN.out hux.2.1.1
        obtain ⟨q, cc, hq⟩ := hI2.ll.slice hx
        have hr0 := hI2.ll.row.cell hx
        rw [hq] at hr0
        have hml : (ints (kids S b x)).length ≤ 1048577 := by
          rw [ints_len]
          have := kids_len S b x
          omega
        have HKE := Lib.hid (kids_succ S b x)
        obtain ⟨M, eM⟩ : ∃ M, ints (kids S b x) = M := ⟨_, rfl⟩
        simp only [eM] at hq hr0 hml
        have HIA := Lib.hid (hI2.alloc (.cells #[.int .i64 b] 3))
        have hown := HIA.out.ll.own x hx
        simp only [hq, eM] at hown
        have HQ := Lib.hid (And.intro hq (And.intro eM hown))
        have HST := Lib.hid hks
        have HO := Lib.hid (And.intro hup2 hsep)
        have hbig : W.heap.size + 1 + 1 ≤ wr.heap.size := by have := hI2.ll.row.lt; omega
        have hd1 : ((x : Int) == -1) = false := by simp
        have hd2 : ((x : Int) != -1) = true := by simp
        have hd3 : decide ((x : Int) = -1) = false := by simp
        have hz1' : (0 : Int) ≤ (x : Int) := by omega
        have hz2' : (x : Int) < (n : Int) := by omega
        clear hI2 hq eM hown hks hup2 hsep hux eu
        go_wp2_with (at_builtin; refine wpList_append_at rfl (.tmp 30) (.tmp 32) 22 rfl (W.heap.size + 1 + 1) 3 i0 _ 1 8 Try.underlying22 hi hz0 hz1 hz2 rfl (by decide) (.slice q M.length cc) M.length (M.flatMap intC) rfl HQ.out.2.2 (some ⟨wr.heap.size, 0, none⟩) 1 1 [.int .i64 b] rfl rfl (lit_one _ _ _) (by intro u hu; simp at hu; subst hu; rfl) (by unfold maxLen; omega) (by omega) (by simp; omega) ?_
                     intro v6 w6 hown6 hgrow6 hmv6
                     obtain ⟨q6, c6, rfl⟩ := row_slice hown6
                     have hr6 := rowIs_kept HIA.out.ll.row hgrow6 (fun e => by have := (HQ.out.2.2.lt _ e.symm).1; omega)
                     have k0 := hr6.cell hx
                     have kf := hr6.frozen x
                     rw [HQ.out.1] at k0
                     have H6 := Lib.hid (And.intro hown6 (And.intro hgrow6 hmv6))
                     clear hr6 hown6 hgrow6 hmv6 hr0 hc)
        clear k0 kf
        have hnew := HIA.out.snoc hx (x := (b : Int)) (v' := .slice q6 (M.length + 1) c6) (by rw [HQ.out.2.1]; exact H6.out.1) (by rw [HQ.out.1]; exact H6.out.2.1) (by rw [HQ.out.1]; exact H6.out.2.2)
        have hsep := HO.out.2
        have hsx := hsep x hx
        rw [HQ.out.1] at hsx
        have hs6 := snoc_stay (R := W.heap.size + 1) (t := x) (lo := W.heap.size + 1 + 1) (hi := w1.heap.size) (v' := .slice q6 (M.length + 1) c6) H6.out.2.1 (by simp; omega) (Nat.lt_succ_self _) (fun g e => .inr (hsx g e))
        have hsz : wr.heap.size + 1 ≤ w6.heap.size := by have := H6.out.2.1.size; simp at this; exact this
        have hupA := rowIs_kept HO.out.1 (below_grown ((Below.refl wr.heap.size wr).alloc (Nat.le_refl _) (.cells #[.int .i64 b] 3))) (by simp)
        refine ⟨⟨b + 1, _, by omega, by go_num, hnew.congr (fun j hj => ?_), hupA.of_block (hs6 R2 (by simp at hR2; omega) hR2l), fun j hj g e => ?_, ?_⟩, by simp [intOf]; omega⟩
        · rw [HST.out j]
          by_cases e : j = x
          · subst e
            rw [if_pos rfl, if_pos rfl, ints_app]
            rfl
          · rw [if_neg e, if_neg (fun e2 => e (by omega)), List.append_nil]
        · by_cases ej : j = x
          · subst ej
            simp only [if_pos] at e
            rcases H6.out.2.2 with e2 | e2
            · rw [e2] at e
              exact hsx g e
            · rw [e2] at e
              injection e with e
              simp at e
              omega
          · simp only [if_neg ej] at e
            exact hsep j hj g e
        · rw [setCell_size]; omega
      · simp only [eu] at hc hks
        have HZ := Lib.hid (And.intro hI2 (And.intro hup2 (And.intro hsep (And.intro hks hw2))))
        clear hI2 hup2 hsep hks hno eu
        go_wp2_with fail
        refine ⟨⟨b + 1, vs2, by omega, by go_num, HZ.out.1.congr (fun j hj => ?_), HZ.out.2.1, HZ.out.2.2.1, HZ.out.2.2.2.2⟩, by simp [intOf]; omega⟩
        rw [HZ.out.2.2.2.1 j, if_neg (by omega), List.append_nil]
    · obtain rfl : b = n := by omega
      have HZ := Lib.hid hI2
      clear hI2 hup2 hsep
      go_wp2_with fail
      go_ret
      exact ⟨W.heap.size + 1, vs2, rfl, HZ.out.past, Nat.le_succ _, HZ.out.ll⟩
end Go.Proofs.Ytphdhndljgihmaa
