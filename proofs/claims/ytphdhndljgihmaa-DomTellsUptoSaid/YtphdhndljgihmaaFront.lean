/- Package dom: Frontier. -/
import Derived.Test.YtphdhndljgihmaaFrA
import Derived.Test.YtphdhndljgihmaaDmA
namespace Go.Proofs.Ytphdhndljgihmaa
open Go.RowKit Go.Maps
set_option linter.unusedVariables false
set_option linter.unusedSimpArgs false

set_option maxRecDepth 100000 in
set_option maxHeartbeats 4000000 in
theorem Frontier_own (f : LFn) (W : World) (hf : FnIn W.heap.size W f) (hs : FnSm f) (hbs : f.bs.length ≤ 1048576) :
    Calls Try.prog 14 #[.agg (fnC f).toArray] W (OwnLL f.bs.length (fun t => ints (frUpto (succP (fnD f).bs) f.bs.length t)) W) := by
  have hmk := run_make_row' (P := Try.prog) 29 22 _ _ Try.underlying29 infoInts rfl .i64 .i64 f.bs.length (by omega) (by omega)
  have hP := (Past.refl (Nat.le_refl W.heap.size)).alloc (.cells (fnC f).toArray 25)
  have A1 : Box W.heap.size (fnC f) (W.alloc (.cells (fnC f).toArray 25)) := Box.new W rfl _ _
  have HN : Hid (∀ b, ∀ t ∈ succP (fnD f).bs b, t < f.bs.length) := Lib.hid (fun b t ht => by
    have := succP_lt _ _ t ht
    simpa [fnD] using this)
  have cF : ∀ w, Past W.heap.size W w → FnIn w.heap.size w f := fun w h => past_lasts lasts_Fn hf h
  have cI : ∀ (w : World), Below W.heap.size W w → Calls Try.prog 18 #[.agg (fnC f).toArray] w (OwnUp (succP (fnD f).bs) f.bs.length w) := fun w h => Idom_own f w (cF w ⟨Nat.le_refl _, h⟩) hs hbs
  have cP : ∀ (w : World), Below W.heap.size W w → Calls Try.prog 27 #[.agg (fnC f).toArray] w (OwnLL f.bs.length (fun t => ints (predUpto (succP (fnD f).bs) f.bs.length t)) w) := fun w h => Preds_own f w (cF w ⟨Nat.le_refl _, h⟩) hs hbs
  obtain ⟨S, eS⟩ : ∃ S, succP (fnD f).bs = S := ⟨_, rfl⟩
  simp only [eS] at cI cP HN ⊢
  obtain ⟨nm, pp, pn, pc, ps, rt, bp, bn, bc, bs⟩ := f
  obtain rfl : bn = bs.length := hf.2.1
  show Calls Try.prog 14 #[.agg #[.string nm, .slice pp pn pc, .int .i64 rt, .slice bp bs.length bc]] W _
  have hfc : fnC ⟨nm, pp, pn, pc, ps, rt, bp, bs.length, bc, bs⟩ = [.string nm, .slice pp pn pc, .int .i64 rt, .slice bp bs.length bc] := rfl
  rw [hfc] at A1 hP
  simp only [hfc] at cI cP
  obtain ⟨n, en⟩ : ∃ n, bs.length = n := ⟨_, rfl⟩
  simp only [en] at cI cP A1 hP hbs HN hmk ⊢
  have a3 := A1.get 3 _ rfl
  have HC := Lib.hid (And.intro cI cP)
  have HB := Lib.hid (And.intro hP A1)
  clear cI cP hP A1 cF hf hs eS hfc en
  go_enter Try.func14, Try.ntmps14
  have I0 : PreI W [.string nm, .slice pp pn pc, .int .i64 rt, .slice bp n bc] (W.heap.size + 1) n (fun _ => .slice none 0 0) (fun t => ints (frUpto S 0 t)) ((W.alloc (.cells #[.string nm, .slice pp pn pc, .int .i64 rt, .slice bp n bc] 25)).alloc (.cells (madeCells #[.slice none 0 0] n) 22)) := by
    have h := LL.new (W.alloc (.cells #[.string nm, .slice pp pn pc, .int .i64 rt, .slice bp n bc] 25)) n
    rw [World.size_alloc] at h
    exact ⟨HB.out.1.alloc _, HB.out.2.alloc _, Nat.lt_succ_self _, h⟩
  have hlt0 := I0.ll.row.lt
  have HI0 := Lib.hid I0
  have b3 := I0.box.get 3 _ rfl
  clear I0
  go_upto_region 2 with fail
  clear hmk a3 b3
  obtain ⟨w0, ew0⟩ : ∃ w0, ((W.alloc (.cells #[.string nm, .slice pp pn pc, .int .i64 rt, .slice bp n bc] 25)).alloc (.cells (madeCells #[.slice none 0 0] n) 22)) = w0 := ⟨_, rfl⟩
  rw [ew0] at HI0 hlt0 ⊢
  clear ew0
  go_cut [4, 5] (fun s4 s5 wx => ∃ R2 RP vp, s4 = .slice (some ⟨R2, 0, none⟩) n n ∧ s5 = .slice (some ⟨RP, 0, none⟩) n n ∧ W.heap.size + 2 ≤ R2 ∧ W.heap.size + 2 ≤ RP ∧ PreI W [.string nm, .slice pp pn pc, .int .i64 rt, .slice bp n bc] (W.heap.size + 1) n (fun _ => .slice none 0 0) (fun t => ints (frUpto S 0 t)) wx ∧ wx.rowIs R2 3 n (fun b => .int .i64 (upI S b)) ∧ PredQ RP n vp (fun t => ints (predUpto S n t)) wx)
  case first =>
    have HS : ∀ w w' : World, (w.cell? ⟨W.heap.size, 0, none⟩ = some (.string nm) ∧ w.cell? ⟨W.heap.size, 1, none⟩ = some (.slice pp pn pc) ∧ w.cell? ⟨W.heap.size, 2, none⟩ = some (.int .i64 rt) ∧ w.cell? ⟨W.heap.size, 3, none⟩ = some (.slice bp n bc) ∧ W.heap.size < w.heap.size ∧ Below W.heap.size W w) → Below w.heap.size w w' → (w'.cell? ⟨W.heap.size, 0, none⟩ = some (.string nm) ∧ w'.cell? ⟨W.heap.size, 1, none⟩ = some (.slice pp pn pc) ∧ w'.cell? ⟨W.heap.size, 2, none⟩ = some (.int .i64 rt) ∧ w'.cell? ⟨W.heap.size, 3, none⟩ = some (.slice bp n bc) ∧ W.heap.size < w'.heap.size ∧ Below W.heap.size W w') := by
      rintro w w' ⟨q0, q1, q2, q3, q4, q5⟩ hb
      exact ⟨(hb.cell (p := ⟨W.heap.size, 0, none⟩) q4).trans q0, (hb.cell (p := ⟨W.heap.size, 1, none⟩) q4).trans q1, (hb.cell (p := ⟨W.heap.size, 2, none⟩) q4).trans q2, (hb.cell (p := ⟨W.heap.size, 3, none⟩) q4).trans q3, Nat.lt_of_lt_of_le q4 hb.size, q5.trans (hb.mono (Nat.le_of_lt q4))⟩
    have hS3 : w0.cell? ⟨W.heap.size, 0, none⟩ = some (.string nm) ∧ w0.cell? ⟨W.heap.size, 1, none⟩ = some (.slice pp pn pc) ∧ w0.cell? ⟨W.heap.size, 2, none⟩ = some (.int .i64 rt) ∧ w0.cell? ⟨W.heap.size, 3, none⟩ = some (.slice bp n bc) ∧ W.heap.size < w0.heap.size ∧ Below W.heap.size W w0 := ⟨HI0.out.box.get 0 _ rfl, HI0.out.box.get 1 _ rfl, HI0.out.box.get 2 _ rfl, HI0.out.box.get 3 _ rfl, HI0.out.box.1, HI0.out.past.2⟩
    obtain ⟨k0, k1, k2, k3, k4, k5⟩ := hS3
    have kh : Hold [(fun u => PreI W [.string nm, .slice pp pn pc, .int .i64 rt, .slice bp n bc] (W.heap.size + 1) n (fun _ => .slice none 0 0) (fun t => ints (frUpto S 0 t)) u)] w0 := Hold.one (fun u hu => HI0.out.later hu)
    have cI : ∀ w, ((w.cell? ⟨W.heap.size, 0, none⟩ = some (.string nm) ∧ w.cell? ⟨W.heap.size, 1, none⟩ = some (.slice pp pn pc) ∧ w.cell? ⟨W.heap.size, 2, none⟩ = some (.int .i64 rt) ∧ w.cell? ⟨W.heap.size, 3, none⟩ = some (.slice bp n bc) ∧ W.heap.size < w.heap.size ∧ Below W.heap.size W w) ∧ Hold [(fun u => PreI W [.string nm, .slice pp pn pc, .int .i64 rt, .slice bp n bc] (W.heap.size + 1) n (fun _ => .slice none 0 0) (fun t => ints (frUpto S 0 t)) u)] w) → Calls Try.prog 18 #[.agg #[.string nm, .slice pp pn pc, .int .i64 rt, .slice bp n bc]] w fun e w' => ∃ R2, e = .returned (.slice (some ⟨R2, 0, none⟩) n n) ∧ W.heap.size + 2 ≤ R2 ∧ w'.cell? ⟨W.heap.size, 0, none⟩ = some (.string nm) ∧ w'.cell? ⟨W.heap.size, 1, none⟩ = some (.slice pp pn pc) ∧ w'.cell? ⟨W.heap.size, 2, none⟩ = some (.int .i64 rt) ∧ w'.cell? ⟨W.heap.size, 3, none⟩ = some (.slice bp n bc) ∧ W.heap.size < w'.heap.size ∧ Below W.heap.size W w' ∧ Hold [(fun u => u.rowIs R2 3 n (fun b => .int .i64 (upI S b))), (fun u => PreI W [.string nm, .slice pp pn pc, .int .i64 rt, .slice bp n bc] (W.heap.size + 1) n (fun _ => .slice none 0 0) (fun t => ints (frUpto S 0 t)) u)] w' := by
      rintro w ⟨k, kh⟩
      have hl := (kh.get (fun u => PreI W [.string nm, .slice pp pn pc, .int .i64 rt, .slice bp n bc] (W.heap.size + 1) n (fun _ => .slice none 0 0) (fun t => ints (frUpto S 0 t)) u) (.head _)).ll.row.lt
      refine (HC.out.1 w k.2.2.2.2.2).mono ?_
      rintro e w' ⟨R2, he, hp, hR, hl2⟩
      obtain ⟨q0, q1, q2, q3, q4, q5⟩ := HS w w' k hp.2
      exact ⟨R2, he, by omega, q0, q1, q2, q3, q4, q5, kh.cons hp.2 (fun u hu => rowIs_kept hl2 (below_grown hu) (by simp))⟩
    have cP : ∀ R2 w, ((w.cell? ⟨W.heap.size, 0, none⟩ = some (.string nm) ∧ w.cell? ⟨W.heap.size, 1, none⟩ = some (.slice pp pn pc) ∧ w.cell? ⟨W.heap.size, 2, none⟩ = some (.int .i64 rt) ∧ w.cell? ⟨W.heap.size, 3, none⟩ = some (.slice bp n bc) ∧ W.heap.size < w.heap.size ∧ Below W.heap.size W w) ∧ Hold [(fun u => u.rowIs R2 3 n (fun b => .int .i64 (upI S b))), (fun u => PreI W [.string nm, .slice pp pn pc, .int .i64 rt, .slice bp n bc] (W.heap.size + 1) n (fun _ => .slice none 0 0) (fun t => ints (frUpto S 0 t)) u)] w) → Calls Try.prog 27 #[.agg #[.string nm, .slice pp pn pc, .int .i64 rt, .slice bp n bc]] w fun e w' => ∃ RP vp, e = .returned (.slice (some ⟨RP, 0, none⟩) n n) ∧ W.heap.size + 2 ≤ RP ∧ w'.cell? ⟨W.heap.size, 0, none⟩ = some (.string nm) ∧ w'.cell? ⟨W.heap.size, 1, none⟩ = some (.slice pp pn pc) ∧ w'.cell? ⟨W.heap.size, 2, none⟩ = some (.int .i64 rt) ∧ w'.cell? ⟨W.heap.size, 3, none⟩ = some (.slice bp n bc) ∧ W.heap.size < w'.heap.size ∧ Below W.heap.size W w' ∧ Hold [PredQ RP n vp (fun t => ints (predUpto S n t)), (fun u => u.rowIs R2 3 n (fun b => .int .i64 (upI S b))), (fun u => PreI W [.string nm, .slice pp pn pc, .int .i64 rt, .slice bp n bc] (W.heap.size + 1) n (fun _ => .slice none 0 0) (fun t => ints (frUpto S 0 t)) u)] w' := by
      rintro R2 w ⟨k, kh⟩
      have hl := (kh.get (fun u => PreI W [.string nm, .slice pp pn pc, .int .i64 rt, .slice bp n bc] (W.heap.size + 1) n (fun _ => .slice none 0 0) (fun t => ints (frUpto S 0 t)) u) (.tail _ (.head _))).ll.row.lt
      refine (HC.out.2 w k.2.2.2.2.2).mono ?_
      rintro e w' ⟨RP, vp, he, hp, hR, hl2⟩
      obtain ⟨q0, q1, q2, q3, q4, q5⟩ := HS w w' k hp.2
      exact ⟨RP, vp, he, by omega, q0, q1, q2, q3, q4, q5, kh.cons hp.2 (PredQ.all hl2)⟩
    clear HS
    go_region_held3 (fun w' => w'.cell? ⟨W.heap.size, 0, none⟩ = some (.string nm) ∧ w'.cell? ⟨W.heap.size, 1, none⟩ = some (.slice pp pn pc) ∧ w'.cell? ⟨W.heap.size, 2, none⟩ = some (.int .i64 rt) ∧ w'.cell? ⟨W.heap.size, 3, none⟩ = some (.slice bp n bc) ∧ W.heap.size < w'.heap.size ∧ Below W.heap.size W w')
      (((try dsimp only); (repeat' apply And.intro) <;> (first | (with_reducible assumption) | (rw [World.cell?_drew]; with_reducible assumption) | (with_reducible apply below_drew; with_reducible assumption) | (simp <;> omega))))
      (first
        | ((with_reducible refine' (cI _ ?pre).mono ?_)
           case pre => (refine ⟨⟨?_, ?_, ?_, ?_, ?_, ?_⟩, ?_⟩ <;> (first | (with_reducible assumption) | (rw [World.cell?_drew]; with_reducible assumption) | (with_reducible apply below_drew; with_reducible assumption) | (with_reducible apply Hold.drew; with_reducible assumption) | (simp <;> omega) | omega))
           rintro e wp ⟨R2, rfl, hq2, sb0, sb1, sb2, sb3, sb4, sb5, sbh⟩)
        | ((with_reducible refine' (cP _ _ ?pre).mono ?_)
           case pre => (refine ⟨⟨?_, ?_, ?_, ?_, ?_, ?_⟩, ?_⟩ <;> (first | (with_reducible assumption) | (rw [World.cell?_drew]; with_reducible assumption) | (with_reducible apply below_drew; with_reducible assumption) | (with_reducible apply Hold.drew; with_reducible assumption) | (simp <;> omega) | omega))
           rintro e wr ⟨RP, vp, rfl, hqp, sc0, sc1, sc2, sc3, sc4, sc5, sch⟩))
    all_goals
      go_wp2_with fail
      go_meet
      exact ⟨R2, RP, vp, rfl, rfl, hq2, hqp, sch.get (fun u => PreI W [.string nm, .slice pp pn pc, .int .i64 rt, .slice bp n bc] (W.heap.size + 1) n (fun _ => .slice none 0 0) (fun t => ints (frUpto S 0 t)) u) (.tail _ (.tail _ (.head _))), sch.get (fun u => u.rowIs R2 3 n (fun b => .int .i64 (upI S b))) (.tail _ (.head _)), sch.get (PredQ RP n vp _) (.head _)⟩
  case rest =>
    obtain ⟨R2, RP, vp, rfl, rfl, hR2, hRP, hI1, hup, hpr⟩ := hcut
    generalize wc = w1 at *
    have b3 := hI1.box.get 3 _ rfl
    have hR2l := hup.lt
    have HX := Lib.hid (And.intro hI1 (And.intro hup hpr))
    clear hI1 hup hpr hlt0 HI0 HB
    obtain ⟨i0, hi, hz0, hz1, hz2⟩ := info_parts infoInt
    go_wp2_with fail
    clear b3
    go_loopw [21] (fun t wr => ∃ (b : Nat) (vs : Nat → Value), b ≤ n ∧ t = .int .i64 b ∧ PreI W [.string nm, .slice pp pn pc, .int .i64 rt, .slice bp n bc] (W.heap.size + 1) n vs (fun a => ints (frUpto S b a)) wr ∧ Stay (W.heap.size + 2) w1.heap.size w1 wr ∧ (∀ j, j < n → ∀ g, (vs j).ownBlock = some g → w1.heap.size ≤ g) ∧ w1.heap.size ≤ wr.heap.size) (fun t _ => n - (intOf t).toNat)
    case atStart => exact ⟨0, _, Nat.zero_le _, rfl, HX.out.1, Stay.refl _ _ _, fun j hj g e => by simp [Value.ownBlock] at e, Nat.le_refl _⟩
    case round =>
      obtain ⟨b, vs, hbn, rfl, hI, hst, hsep, hsz⟩ := hrel
      by_cases hlt : b < n
      · have hll := HX.out.2.2.stay (hi := w1.heap.size) (Nat.le_refl _) (hst.mono (by omega) (Nat.le_refl _))
        have cp := hll.row.cell hlt
        obtain ⟨pq, pcc, hpq⟩ := hll.slice hlt
        rw [hpq] at cp
        obtain ⟨P, eP⟩ : ∃ P, predUpto S n b = P := ⟨_, rfl⟩
        have hown : ∀ w, Stay (W.heap.size + 2) w1.heap.size w1 w → w.ownsRow (RP + 1) 3 1 (.slice pq (ints P).length pcc) (ints P).length ((ints P).flatMap intC) := fun w h => by
          have hown := (HX.out.2.2.stay (hi := w1.heap.size) (Nat.le_refl _) (h.mono (by omega) (Nat.le_refl _))).own b hlt
          rw [hpq] at hown
          simp only [eP] at hown
          exact hown
        have hP : ∀ i (hi : i < P.length), P[i] < n ∧ b ∈ S P[i] := by
          subst eP
          exact fun i hi => (mem_predUpto S n b _).1 (List.getElem_mem hi)
        have hPl : P.length ≤ n := by rw [← eP]; exact predUpto_le S n b
        have hPe : ∀ a, frRow S b (FrJ S b P) a = frUpto S (b + 1) a := by
          subst eP
          exact fun a => frRow_end (fun x _ hr => rch_lt (show 0 < n by omega) HN.out hr)
        simp only [eP, ints_len] at cp
        have HB := Lib.hid (And.intro hown (And.intro hP (And.intro hPe (And.intro hI (And.intro hst hsep)))))
        clear hll hown hP hPe hI hst hsep eP hpq
        go_wp2_with fail
        clear cp
        go_loopw [29] (fun t wr => ∃ (j : Nat) (vs : Nat → Value), j ≤ P.length ∧ t = .int .i64 j ∧ PreI W [.string nm, .slice pp pn pc, .int .i64 rt, .slice bp n bc] (W.heap.size + 1) n vs (fun a => ints (frRow S b (FrJ S b (P.take j)) a)) wr ∧ Stay (W.heap.size + 2) w1.heap.size w1 wr ∧ (∀ j, j < n → ∀ g, (vs j).ownBlock = some g → w1.heap.size ≤ g) ∧ w1.heap.size ≤ wr.heap.size) (fun t _ => P.length - (intOf t).toNat)
        case atStart => exact ⟨0, vs, Nat.zero_le _, rfl, HB.out.2.2.2.1.congr (fun a _ => by rw [List.take_zero, frRow_congr (Q' := fun _ => False) (by simp [FrJ.nil]), frRow_none]), HB.out.2.2.2.2.1, HB.out.2.2.2.2.2, hsz⟩
        case round =>
          obtain ⟨j, vs2, hjl, rfl, hI2, hst2, hsep2, hsz2⟩ := hrel
          by_cases hltj : j < P.length
          · obtain ⟨pa, rfl, _, hc⟩ := own_int (HB.out.1 wr hst2) hltj
            have hd := HB.out.2.1 j hltj
            have htk : P.take (j + 1) = P.take j ++ [P[j]] := List.take_succ_eq_append_getElem hltj
            obtain ⟨d, ed⟩ : ∃ d, P[j] = d := ⟨_, rfl⟩
            rw [ed] at hc hd htk
            have hup2 := HX.out.2.1.of_block (hst2 R2 hR2 hR2l)
            have c1 := isReached_any wr (show 0 < n by omega) HN.out hup2 hd.1 hbs
            have HD := Lib.hid (And.intro hd (And.intro htk (And.intro hI2 (And.intro hst2 hsep2))))
            clear hd htk hI2 hst2 hsep2 hup2 ed
            go_wp2_with fail
            refine c1.mono ?_
            rintro e w2 ⟨rfl, hb2⟩
            have hI3 := HD.out.2.2.1.later hb2
            have hst3 := HD.out.2.2.2.1.trans (below_stay hb2 hsz2)
            have hsz3 : w1.heap.size ≤ w2.heap.size := Nat.le_trans hsz2 hb2.size
            have HJ := Lib.hid (And.intro hI3 hst3)
            clear c1 hc hb2 hI3 hst3
            by_cases hrd : Rch S d
            · rw [rchB_iff.2 hrd]
              have HRD := Lib.hid hrd
              clear hrd
              go_wp2_with fail
              go_loopw [9] (fun t wr => ∃ (x : Int) (i : Nat) (vs : Nat → Value) (V : Nat → Prop), t = .int .i64 x ∧ EdgeF S n b d i x (P.take j) V ∧ PreI W [.string nm, .slice pp pn pc, .int .i64 rt, .slice bp n bc] (W.heap.size + 1) n vs (fun a => ints (frRow S b (fun y => FrJ S b (P.take j) y ∨ V y) a)) wr ∧ Stay (W.heap.size + 2) w1.heap.size w1 wr ∧ (∀ j, j < n → ∀ g, (vs j).ownBlock = some g → w1.heap.size ≤ g) ∧ w1.heap.size ≤ wr.heap.size) (fun t _ => if intOf t < 0 then 0 else cntD S n (intOf t).toNat + 1)
              case atStart => exact ⟨d, 0, vs2, fun _ => False, rfl, EdgeF.start HRD.out HD.out.1.2, HJ.out.1.congr (fun a _ => by rw [frRow_congr (Q' := fun y => FrJ S b (P.take j) y ∨ False) (by simp)]), HJ.out.2, HD.out.2.2.2.2, hsz3⟩
              case round =>
                obtain ⟨x, i, vs3, V, rfl, hE, hI4, hst4, hsep4, hsz4⟩ := hrel
                have hup4 := HX.out.2.1.of_block (hst4 R2 hR2 hR2l)
                have cub := hup4.cell hlt
                by_cases hxu : x = upI S b
                · rw [← hxu] at cub
                  have hen := fun a => hE.ends (show 0 < n by omega) HN.out HRD.out HD.out.1.2 (.inl hxu) a
                  have HZ := Lib.hid (And.intro (hI4.congr (M' := fun a => ints (frRow S b (FrJ S b (P.take (j + 1))) a)) (fun a _ => by rw [HD.out.2.1]; exact congrArg ints (frRow_congr (hen a).symm))) (And.intro hst4 hsep4))
                  clear hE hI4 hst4 hsep4 hxu hen hup4
                  go_wp2_with fail
                  exact ⟨⟨j + 1, vs3, by omega, by go_num, HZ.out.1, HZ.out.2.1, HZ.out.2.2, hsz4⟩, by simp [intOf]; omega⟩
                · obtain ⟨y, rfl, hx, hnv⟩ := hE.at (show 0 < n by omega) HN.out hxu
                  have hF0 : FrJ S b (P.take j) y ∨ V y ↔ FrJ S b (P.take j) y := ⟨fun k => k.resolve_right hnv, .inl⟩
                  have hla : (frRow S b (fun y => FrJ S b (P.take j) y ∨ V y) y).getLast? = some b ↔ FrJ S b (P.take j) y := frRow_last.trans hF0
                  have hml := frRow_len S b (fun y => FrJ S b (P.take j) y ∨ V y) y
                  obtain ⟨q, cc, hq⟩ := hI4.ll.slice hx
                  have hr0 := hI4.ll.row.cell hx
                  have hown0 := hI4.ll.own y hx
                  obtain ⟨N, eN⟩ : ∃ N, frRow S b (fun y => FrJ S b (P.take j) y ∨ V y) y = N := ⟨_, rfl⟩
                  simp only [eN] at hq hown0 hla hml
                  rw [hq] at hr0 hown0
                  have cE := endsWith_any q cc N b wr hown0 (by omega)
                  rw [← ints_len N] at cE
                  have hd1 : ((y : Int) == upI S b) = false := by simp [hxu]
                  have hd2 : ((y : Int) != upI S b) = true := by simp [hxu]
                  obtain ⟨ub, eub⟩ : ∃ ub, upI S b = ub := ⟨_, rfl⟩
                  have HUB := Lib.hid eub
                  rw [eub] at cub hd1 hd2
                  have HV := Lib.hid hxu
                  have cuy := hup4.cell hx
                  have hst5 := hE.step (show 0 < n by omega) HN.out hxu
                  have hdy := (hE.edge.dom y rfl)
                  clear hxu eub hown0
                  by_cases hF : FrJ S b (P.take j) y
                  · have hen := fun a => hE.ends (show 0 < n by omega) HN.out HRD.out HD.out.1.2 (.inr ⟨y, rfl, hF⟩) a
                    have HZ := Lib.hid (And.intro (hI4.congr (M' := fun a => ints (frRow S b (FrJ S b (P.take (j + 1))) a)) (fun a _ => by rw [HD.out.2.1]; exact congrArg ints (frRow_congr (hen a).symm))) (And.intro hst4 hsep4))
                    rw [show decide (N.getLast? = some b) = true from decide_eq_true (hla.2 hF)] at cE
                    clear hE hI4 hst4 hsep4 hen hup4 hF0 hla hq hst5 hdy hF hnv eN cuy
                    go_wp2_with fail
                    refine cE.mono ?_
                    rintro e w5 ⟨rfl, rfl⟩
                    clear cE
                    go_wp2_with fail
                    exact ⟨⟨j + 1, vs3, by omega, by go_num, HZ.out.1, HZ.out.2.1, HZ.out.2.2, hsz4⟩, by simp [intOf]; omega⟩
                  · rw [show decide (N.getLast? = some b) = false from decide_eq_false (fun k => hF (hla.1 k))] at cE
                    have hnQ : ¬ (FrJ S b (P.take j) y ∨ V y) := fun k => k.elim hF hnv
                    have hE5 := hst5 hF
                    obtain ⟨M, eM⟩ : ∃ M, ints N = M := ⟨_, rfl⟩
                    have hml2 : M.length ≤ 1048577 := by rw [← eM, ints_len]; omega
                    simp only [eM] at hq hr0 cE
                    have HIA := Lib.hid (hI4.alloc (.cells #[.int .i64 b] 3))
                    have hown := HIA.out.ll.own y hx
                    simp only [hq, eN, eM] at hown
                    have eQ : ints (frRow S b (fun y => FrJ S b (P.take j) y ∨ V y) y) = M := by rw [eN, eM]
                    have HQ := Lib.hid (And.intro hq (And.intro eQ hown))
                    have hput := fun a => frRow_put (S := S) (b := b) (Q := fun y => FrJ S b (P.take j) y ∨ V y) (x := y) hnQ a
                    have HST := Lib.hid hput
                    have hupA := rowIs_kept hup4 (below_grown ((Below.refl wr.heap.size wr).alloc (Nat.le_refl _) (.cells #[.int .i64 b] 3))) (by simp)
                    have HO := Lib.hid (And.intro hupA (And.intro hsep4 (And.intro hst4 (And.intro hE5 hdy))))
                    have hbig : W.heap.size + 1 + 1 ≤ wr.heap.size := by have := hI4.ll.row.lt; omega
                    have hz1' : (0 : Int) ≤ (y : Int) := by omega
                    have hz2' : (y : Int) < (n : Int) := by omega
                    clear hE hI4 hst4 hsep4 hup4 hF0 hla hq hst5 hdy hF hnv eN eM eQ hown hput hupA hE5 hnQ cuy hml
                    go_wp2_with fail
                    refine cE.mono ?_
                    rintro e w5 ⟨rfl, hw5⟩
                    rw [hw5]
                    clear cE hw5
                    obtain ⟨uy, euy⟩ : ∃ uy, upI S y = uy := ⟨_, rfl⟩
                    have HUY := Lib.hid euy
                    clear euy
                    have hne : ¬ R2 = W.heap.size + 1 := by omega
                    have hne2 : ¬ W.heap.size + 1 = R2 := by omega
                    go_wp2_with (at_builtin; refine wpList_append_at rfl (.tmp 62) (.tmp 64) 22 rfl (W.heap.size + 1 + 1) 3 i0 _ 1 8 Try.underlying22 hi hz0 hz1 hz2 rfl (by decide) (.slice q M.length cc) M.length (M.flatMap intC) rfl HQ.out.2.2 (some ⟨wr.heap.size, 0, none⟩) 1 1 [.int .i64 b] rfl rfl (lit_one _ _ _) (by intro u hu; simp at hu; subst hu; rfl) (by unfold maxLen; omega) (by omega) (by simp; omega) ?_
                                 intro v6 w6 hown6 hgrow6 hmv6
                                 obtain ⟨q6, c6, rfl⟩ := row_slice hown6
                                 have hr6 := rowIs_kept HIA.out.ll.row hgrow6 (fun e => by have := (HQ.out.2.2.lt _ e.symm).1; omega)
                                 have k0 := hr6.cell hx
                                 have kf := hr6.frozen y
                                 rw [HQ.out.1] at k0
                                 have d6 : w6.cell? ⟨R2, y, none⟩ = some (.int .i64 uy) := by have h := (rowIs_kept HO.out.1 hgrow6 (fun e => by have := HO.out.2.1 y hx R2 (by rw [HQ.out.1]; exact e.symm); omega)).cell hx; rw [HUY.out] at h; exact h
                                 have H6 := Lib.hid (And.intro hown6 (And.intro hgrow6 hmv6))
                                 clear hr6 hown6 hgrow6 hmv6 hr0)
                    clear k0 kf d6
                    have hnew := HIA.out.snoc hx (x := (b : Int)) (v' := .slice q6 (M.length + 1) c6) (by rw [HQ.out.2.1]; exact H6.out.1) (by rw [HQ.out.1]; exact H6.out.2.1) (by rw [HQ.out.1]; exact H6.out.2.2)
                    have hsep := HO.out.2.1
                    have hsx := hsep y hx
                    rw [HQ.out.1] at hsx
                    have hs6 := snoc_stay (R := W.heap.size + 1) (t := y) (lo := W.heap.size + 2) (hi := w1.heap.size) (v' := .slice q6 (M.length + 1) c6) H6.out.2.1 (by simp; omega) (by omega) (fun g e => .inr (hsx g e))
                    have hsz : wr.heap.size + 1 ≤ w6.heap.size := by have := H6.out.2.1.size; simp at this; exact this
                    have hmeas : (if uy < 0 then 0 else cntD S n uy.toNat + 1) < cntD S n y + 1 := by
                      rw [← HUY.out]
                      rcases upI_cases S y with ⟨u, hu, eu⟩ | ⟨_, eu⟩
                      · rw [eu, if_neg (by omega)]
                        have := cntD_up hx hu
                        simp only [Int.toNat_natCast]
                        omega
                      · rw [eu, if_pos (by omega)]
                        omega
                    refine ⟨⟨uy, i + 1, _, fun v => V v ∨ v = y, rfl, by rw [← HUY.out]; exact HO.out.2.2.2.1, hnew.congr (fun a ha => ?_), (HO.out.2.2.1.trans (below_stay ((Below.refl wr.heap.size wr).alloc (Nat.le_refl _) _) hsz4)).trans hs6, fun j hj g e => ?_, ?_⟩, by (have h0 : ¬ ((y : Int) < 0) := (by omega)); (simp only [intOf, Int.toNat_natCast, h0, if_false]); exact hmeas⟩
                    · have e2 : frRow S b (fun z => FrJ S b (P.take j) z ∨ V z ∨ z = y) a = frRow S b (fun z => (FrJ S b (P.take j) z ∨ V z) ∨ z = y) a := frRow_congr or_assoc.symm
                      rw [e2, HST.out a]
                      by_cases e : a = y
                      · subst e
                        rw [if_pos rfl, if_pos rfl, ints_app]
                        rfl
                      · rw [if_neg e, if_neg e]
                    · by_cases ej : j = y
                      · subst ej
                        simp only [if_pos] at e
                        rcases H6.out.2.2 with e2 | e2
                        · rw [e2] at e
                          exact hsx g e
                        · rw [e2] at e
                          injection e with e
                          simp at e
                          omega
                      · simp only [if_neg ej] at e
                        exact hsep j hj g e
                    · rw [setCell_size]; omega
            · rw [rchB_not.2 hrd]
              have HZ := Lib.hid (HJ.out.1.congr (M' := fun a => ints (frRow S b (FrJ S b (P.take (j + 1))) a)) (fun a _ => by rw [HD.out.2.1, frRow_congr (FrJ.skip hrd)]))
              clear hrd
              go_wp2_with fail
              exact ⟨⟨j + 1, vs2, by omega, by go_num, HZ.out, HJ.out.2, HD.out.2.2.2.2, hsz3⟩, by simp [intOf]; omega⟩
          · obtain rfl : j = P.length := by omega
            have HZ := Lib.hid (And.intro (hI2.congr (M' := fun a => ints (frUpto S (b + 1) a)) (fun a _ => by rw [List.take_length, HB.out.2.2.1])) (And.intro hst2 hsep2))
            clear hI2 hst2 hsep2
            go_wp2_with fail
            exact ⟨⟨b + 1, vs2, by omega, by go_num, HZ.out.1, HZ.out.2.1, HZ.out.2.2, hsz2⟩, by simp [intOf]; omega⟩
      · obtain rfl : b = n := by omega
        have HZ := Lib.hid hI
        clear hI hst hsep
        go_wp2_with fail
        go_ret
        exact ⟨W.heap.size + 1, vs, rfl, HZ.out.past, Nat.le_succ _, HZ.out.ll⟩
end Go.Proofs.Ytphdhndljgihmaa
