/- The document's Preds. -/
import Derived.Test.YtphdhndljgihmaaRSuc
import Derived.Deep.RegionHeld3
namespace Go.Proofs.Ytphdhndljgihmaa
open Go.RowKit Go.Maps
set_option linter.unusedVariables false
set_option linter.unusedSimpArgs false

theorem own_cell {w : World} {lo hi n c : Nat} {p : Option Addr} {xs : List Int} (h : ListOwn 3 1 intC NoOwn lo hi w p n c xs) (hh : hi ≤ w.heap.size) (i : Nat) (hi' : i < xs.length) :
    ∃ a, p = some a ∧ lo ≤ a.block ∧ a.block < hi ∧ ∀ w', Stay lo hi w w' → w'.cell? (a.add i) = some (.int .i64 xs[i]) := by
  obtain ⟨a, rfl, ha, hc⟩ := int_row (ints_in h hh) i hi'
  obtain rfl : n = xs.length := h.1
  obtain ⟨g, rfl⟩ : ∃ g, a = ⟨g, 0, none⟩ := by
    rcases h.2.1.2 with ⟨_, h1⟩ | ⟨g, cap, _, hv, _⟩
    · omega
    · injection hv with h1; injection h1 with h1; exact ⟨g, h1⟩
  have h1 := h.2.2.1 g rfl
  have h2 := (h.2.1.lt g rfl).1
  refine ⟨_, rfl, h2, h1, fun w' hs => ?_⟩
  rw [World.cell?_of_block (w := w) (by rw [add_block]; exact hs g h2 h1)]
  exact hc
theorem PreI.drew {W w : World} {cs : List Value} {R n : Nat} {vs : Nat → Value} {M : Nat → List Int} (h : PreI W cs R n vs M w) : PreI W cs R n vs M w.drew := h.later (below_drew (Below.refl _ _))
set_option maxRecDepth 100000 in
set_option maxHeartbeats 2000000 in
theorem rPreds_own (f : LFn) (W : World) (hf : FnIn W.heap.size W f) (hs : FnSm f) (hbs : f.bs.length ≤ 1048576) :
    Calls Try.prog 35 #[.agg (fnC f).toArray] W (OwnLL f.bs.length (fun t => ints (predUpto (succP (fnD f).bs) f.bs.length t)) W) := by
  have hmk := run_make_row' (P := Try.prog) 29 22 _ _ Try.underlying29 infoInts rfl .i64 .i64 f.bs.length (by omega) (by omega)
  have hP := (Past.refl (Nat.le_refl W.heap.size)).alloc (.cells (fnC f).toArray 25)
  have A1 : Box W.heap.size (fnC f) (W.alloc (.cells (fnC f).toArray 25)) := Box.new W rfl _ _
  have cS := fun (b : Int) (w : World) (h : FnIn w.heap.size w f) => rSuccs_own f b w h hs
  have hF := Lib.hid (And.intro hf hs)
  have HN : Hid (∀ b, (succP (fnD f).bs b).Nodup ∧ ∀ t ∈ succP (fnD f).bs b, t < f.bs.length) := Lib.hid (fun b => ⟨succP_nodup _ b, fun t ht => by
    have := succP_lt _ _ t ht
    simpa [fnD] using this⟩)
  have cF : ∀ w, Past W.heap.size W w → FnIn w.heap.size w f := fun w h => past_lasts lasts_Fn hf h
  have cS : ∀ (b : Nat) (w : World), Past W.heap.size W w → Calls Try.prog 45 #[.agg (fnC f).toArray, .int .i64 b] w (OwnInts (succP (fnD f).bs b) w) := fun b w h => by
    have := cS b w (cF w h)
    rw [succI_nat] at this
    exact this
  obtain ⟨S, eS⟩ : ∃ S, succP (fnD f).bs = S := ⟨_, rfl⟩
  simp only [eS] at cS HN ⊢
  obtain ⟨nm, pp, pn, pc, ps, rt, bp, bn, bc, bs⟩ := f
  obtain rfl : bn = bs.length := hf.2.1
  show Calls Try.prog 35 #[.agg #[.string nm, .slice pp pn pc, .int .i64 rt, .slice bp bs.length bc]] W _
  have hfc : fnC ⟨nm, pp, pn, pc, ps, rt, bp, bs.length, bc, bs⟩ = [.string nm, .slice pp pn pc, .int .i64 rt, .slice bp bs.length bc] := rfl
  rw [hfc] at A1 hP
  simp only [hfc] at cS
  obtain ⟨n, en⟩ : ∃ n, bs.length = n := ⟨_, rfl⟩
  simp only [en] at cS A1 hP hbs HN hmk ⊢
  have a3 := A1.get 3 _ rfl
  have HC := Lib.hid cS
  have HB := Lib.hid (And.intro hP A1)
  clear cS hP A1 cF hf hs eS hfc en
  go_enter Try.func35, Try.ntmps35
  have I0 : PreI W [.string nm, .slice pp pn pc, .int .i64 rt, .slice bp n bc] (W.heap.size + 1) n (fun _ => .slice none 0 0) (fun t => ints (predUpto S 0 t)) ((W.alloc (.cells #[.string nm, .slice pp pn pc, .int .i64 rt, .slice bp n bc] 25)).alloc (.cells (madeCells #[.slice none 0 0] n) 22)) := by
    have h := LL.new (W.alloc (.cells #[.string nm, .slice pp pn pc, .int .i64 rt, .slice bp n bc] 25)) n
    rw [World.size_alloc] at h
    exact ⟨HB.out.1.alloc _, HB.out.2.alloc _, Nat.lt_succ_self _, h⟩
  have a3' := I0.box.get 3 _ rfl
  have HI0 := Lib.hid I0
  clear I0
  go_wp2_with fail
  clear hmk a3 a3'
  go_loopw [5] (fun t wr => ∃ (b : Nat) (vs : Nat → Value), b ≤ n ∧ t = .int .i64 b ∧ PreI W [.string nm, .slice pp pn pc, .int .i64 rt, .slice bp n bc] (W.heap.size + 1) n vs (fun t => ints (predUpto S b t)) wr) (fun t _ => n - (intOf t).toNat)
  case atStart => exact ⟨0, _, Nat.zero_le _, rfl, HI0.out⟩
  case round =>
    obtain ⟨b, vs, hbn, rfl, hI⟩ := hrel
    generalize wr = wo at *
    by_cases hlt : b < n
    · have a0 := hI.box.get 0 _ rfl
      have a1 := hI.box.get 1 _ rfl
      have a2 := hI.box.get 2 _ rfl
      have a3 := hI.box.get 3 _ rfl
      have HI := Lib.hid hI
      have c1 := HC.out b wo hI.past
      obtain ⟨T, eT⟩ : ∃ T, S b = T := ⟨_, rfl⟩
      rw [eT] at c1
      have HT := Lib.hid eT
      clear hI eT
      go_wp2_with fail
      refine c1.mono ?_
      rintro e w1 ⟨p, c, rfl, hp1, ho1⟩
      have I1 := HI.out.later hp1.2
      have hT2 : T.length ≤ 1048576 := by
        have h1 := HN.out b
        rw [HT.out] at h1
        have := nodup_lt n T h1.1 h1.2
        omega
      have HX := Lib.hid (And.intro I1 (And.intro ho1 hp1))
      clear a0 a1 a2 a3 c1 I1 ho1 hp1
      obtain ⟨i0, hi, hz0, hz1, hz2⟩ := info_parts infoInt
      go_wp2_with fail
      go_loopw [7] (fun t wr => ∃ (i : Nat) (vs : Nat → Value), i ≤ T.length ∧ t = .int .i64 i ∧ PreI W [.string nm, .slice pp pn pc, .int .i64 rt, .slice bp n bc] (W.heap.size + 1) n vs (fun t => ints (predPart S b i t)) wr ∧ ListOwn 3 1 intC NoOwn wo.heap.size w1.heap.size wr p T.length c (ints T) ∧ (∀ j, j < n → ∀ g, (vs j).ownBlock = some g → g < wo.heap.size ∨ w1.heap.size ≤ g) ∧ w1.heap.size ≤ wr.heap.size) (fun t _ => T.length - (intOf t).toNat)
      case atStart => exact ⟨0, vs, Nat.zero_le _, rfl, HX.out.1.congr (fun j _ => by rw [predPart_0]), HX.out.2.1, fun j hj g e => .inl ((HI.out.ll.own j hj).lt g e).2, Nat.le_refl _⟩
      case round =>
        obtain ⟨i, vs2, hile, rfl, hI2, ho2, hsep, hw2⟩ := hrel
        have hRlt : W.heap.size + 1 < wo.heap.size := HI.out.ll.row.lt
        by_cases hlt2 : i < T.length
        · obtain ⟨a, rfl, ha, ha2, hcw⟩ := own_cell ho2 hw2 i (by rw [ints_len]; exact hlt2)
          simp only [ints_get T i hlt2] at hcw
          have hc := hcw wr (fun k _ _ => rfl)
          have hc1 := hcw (wr.alloc (.cells #[.int .i64 b] 3)) (below_stay ((Below.refl _ _).alloc (Nat.le_refl _) _) hw2)
          have HCW := Lib.hid hcw
          clear hcw
          have hx : T[i] < n := by
            have h1 := (HN.out b).2
            rw [HT.out] at h1
            exact h1 _ (List.getElem_mem hlt2)
          have hst := fun j => predPart_step S b i j (HN.out b).1 (by rw [HT.out]; exact hlt2)
          simp only [HT.out] at hst
          obtain ⟨x, ex⟩ : ∃ x, T[i] = x := ⟨_, rfl⟩
          rw [ex] at hc hc1 hx HCW
          simp only [ex] at hst
          obtain ⟨q, cc, hq⟩ := hI2.ll.slice hx
          have hr0 := hI2.ll.row.cell hx
          have hr1 := (hI2.alloc (.cells #[.int .i64 b] 3)).ll.row.cell hx
          rw [hq] at hr0 hr1
          have hml : (ints (predPart S b i x)).length ≤ 1048577 := by
            rw [ints_len]
            have := predPart_le S b i x
            omega
          obtain ⟨M, eM⟩ : ∃ M, ints (predPart S b i x) = M := ⟨_, rfl⟩
          simp only [eM] at hq hr0 hr1 hml
          have HIA := Lib.hid (hI2.drew.alloc (.cells #[.int .i64 b] 3))
          have hown := HIA.out.ll.own x hx
          simp only [hq, eM] at hown
          have HQ := Lib.hid (And.intro hq (And.intro eM hown))
          have HST := Lib.hid hst
          have HO := Lib.hid (And.intro ho2 hsep)
          have hbig : W.heap.size + 1 + 1 ≤ wr.heap.size := by have := hI2.ll.row.lt; omega
          clear hI2 hq eM hown hst ex ho2 hsep
          go_wp2_with fail
          go_region_law (refine step_append_at rfl (.tmp 38) (.tmp 40) 22 rfl (W.heap.size + 1 + 1) 3 i0 _ 1 8 Try.underlying22 hi hz0 hz1 hz2 rfl (by decide) (.slice q M.length cc) M.length (M.flatMap intC) rfl HQ.out.2.2 (some ⟨wr.heap.size, 0, none⟩) 1 1 [.int .i64 b] rfl rfl (lit_one _ _ _) (by intro u hu; simp at hu; subst hu; rfl) (by unfold maxLen; omega) (by omega) (by simp; omega) ?_
                         intro v6 w6 hown6 hgrow6 hmv6
                         obtain ⟨q6, c6, rfl⟩ := row_slice hown6
                         have hr6 := rowIs_kept HIA.out.ll.row hgrow6 (fun e => by have := (HQ.out.2.2.lt _ e.symm).1; omega)
                         have k0 := hr6.cell hx
                         have kf := hr6.frozen x
                         rw [HQ.out.1] at k0
                         have d6 := HCW.out w6 (fun k h1 h2 => (hgrow6.block k (by simp; omega) (fun e => by have h3 := HO.out.2 x hx; rw [HQ.out.1] at h3; have := h3 k e.symm; omega)).trans (((below_drew (Below.refl wr.heap.size wr)).alloc (Nat.le_refl _) (.cells #[.int .i64 b] 3)).block k (by omega)))
                         have H6 := Lib.hid (And.intro hown6 (And.intro hgrow6 hmv6))
                         clear hr6 hown6 hgrow6 hmv6)
          all_goals
            go_wp2_with fail
            clear k0 kf d6
            have hnew := HIA.out.snoc hx (x := (b : Int)) (v' := .slice q6 (M.length + 1) c6) (by rw [HQ.out.2.1]; exact H6.out.1) (by rw [HQ.out.1]; exact H6.out.2.1) (by rw [HQ.out.1]; exact H6.out.2.2)
            have hsep := HO.out.2
            have hsx := hsep x hx
            rw [HQ.out.1] at hsx
            have hoA := HO.out.1.stay local_NoOwn (w' := wr.drew.alloc (.cells #[.int .i64 b] 3)) (below_stay ((below_drew (Below.refl wr.heap.size wr)).alloc (Nat.le_refl _) _) hw2)
            have hs6 := snoc_stay (R := W.heap.size + 1) (t := x) (lo := wo.heap.size) (hi := w1.heap.size) (v' := .slice q6 (M.length + 1) c6) H6.out.2.1 (by simp; omega) hRlt hsx
            have hsz : wr.heap.size + 1 ≤ w6.heap.size := by have := H6.out.2.1.size; simp at this; exact this
            refine ⟨⟨i + 1, _, by omega, by go_num, hnew.congr (fun j hj => ?_), hoA.stay local_NoOwn hs6, fun j hj g e => ?_, ?_⟩, by simp [intOf]; omega⟩
            · rw [HST.out j]
              by_cases e : j = x
              · subst e
                rw [if_pos rfl, if_pos rfl, ints_app]
                rfl
              · rw [if_neg e, if_neg e]
            · by_cases ej : j = x
              · subst ej
                simp only [if_pos] at e
                rcases H6.out.2.2 with e2 | e2
                · rw [e2] at e
                  exact hsx g e
                · rw [e2] at e
                  injection e with e
                  simp at e
                  omega
              · simp only [if_neg ej] at e
                exact hsep j hj g e
            · rw [setCell_size]; omega
        · obtain rfl : i = T.length := by omega
          have HZ := Lib.hid (And.intro hI2 (And.intro ho2 hsep))
          clear hI2 ho2 hsep
          go_wp2_with fail
          refine ⟨⟨b + 1, vs2, by omega, by go_num, HZ.out.1.congr (fun j hj => ?_)⟩, by simp [intOf]; omega⟩
          have := predPart_end S b j
          rw [HT.out] at this
          rw [this]
    · obtain rfl : b = n := by omega
      have HZ := Lib.hid hI
      clear hI
      go_wp2_with fail
      go_ret
      exact ⟨W.heap.size + 1, vs, rfl, HZ.out.past, Nat.le_succ _, HZ.out.ll⟩
end Go.Proofs.Ytphdhndljgihmaa
