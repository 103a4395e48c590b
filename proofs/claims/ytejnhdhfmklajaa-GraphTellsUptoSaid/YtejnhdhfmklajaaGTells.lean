/- The law GraphTells: its walk. -/
import Derived.Test.YtejnhdhfmklajaaRWip
import Derived.Test.YtejnhdhfmklajaaGOrders
namespace Go.Proofs.Ytejnhdhfmklajaa
open Go.RowKit Go.Maps
set_option linter.unusedVariables false
set_option linter.unusedSimpArgs false

/-- What stands of the argument and its copy. -/
structure TS (W : World) (cs ms : List Value) (bm lm hm : Nat) (y : LFn) (w : World) : Prop where
  past : Past W.heap.size W w
  box : Box W.heap.size cs w
  mbox : Box bm ms w
  own : FnOwn lm hm w y
  hi : hm ≤ w.heap.size
  lo : W.heap.size < lm
  mid : hm ≤ bm
theorem TS.later {W w w' : World} {cs ms : List Value} {bm lm hm : Nat} {y : LFn} (h : TS W cs ms bm lm hm y w) (hb : Below w.heap.size w w') : TS W cs ms bm lm hm y w' :=
  ⟨h.past.trans ⟨h.past.size, hb.mono h.past.size⟩, h.box.later hb, h.mbox.later hb, h.own.stays (below_stay hb h.hi), Nat.le_trans h.hi hb.size, h.lo, h.mid⟩
theorem TS.all {W w : World} {cs ms : List Value} {bm lm hm : Nat} {y : LFn} (h : TS W cs ms bm lm hm y w) : ∀ u, Below w.heap.size w u → TS W cs ms bm lm hm y u := fun u hu => h.later hu
theorem fnown_le {a b : Nat} {w : World} {y : LFn} (h : FnOwn a b w y) : a ≤ b := by
  obtain ⟨d, h1, h2⟩ := h
  exact Nat.le_trans h1.le h2.le
theorem TS.out {W w w' : World} {cs ms : List Value} {bm lm hm lo hi : Nat} {y : LFn} (h : TS W cs ms bm lm hm y w) (ho : Out lo hi w w') (hl : bm < lo) : TS W cs ms bm lm hm y w' := by
  have h1 := h.lo
  have h2 := h.mid
  have h3 := h.hi
  have h4 := fnown_le h.own
  exact ⟨⟨h.past.1, h.past.2.trans (ho.below (by omega) h.past.size)⟩, Out.box h.box ho (.inl (by omega)), Out.box h.mbox ho (.inl hl), h.own.stays (ho.stay h3 (.inl (by omega))), Nat.le_trans h3 ho.size, h1, h2⟩
theorem TS.mine {W w : World} {cs ms : List Value} {bm lm hm : Nat} {y : LFn} (h : TS W cs ms bm lm hm y w) : FnIn w.heap.size w y := FnOwn.lies h.hi h.own
/-- A list of lists in blocks ahead of h. -/
def LLb (R h n : Nat) (vs : Nat → Value) (M : Nat → List Int) (w : World) : Prop := LL R n vs M w ∧ R < h ∧ h ≤ w.heap.size ∧ ∀ i, i < n → ∀ g, (vs i).ownBlock = some g → g < h
theorem LLb.all {R h n : Nat} {vs : Nat → Value} {M : Nat → List Int} {w : World} (k : LLb R h n vs M w) : ∀ u, Below w.heap.size w u → LLb R h n vs M u := fun u hu => ⟨k.1.later hu, k.2.1, Nat.le_trans k.2.2.1 hu.size, k.2.2.2⟩
theorem LLb.new {R n : Nat} {vs : Nat → Value} {M : Nat → List Int} {w : World} (k : LL R n vs M w) : LLb R w.heap.size n vs M w := ⟨k, k.row.lt, Nat.le_refl _, fun i hi g e => ((k.own i hi).lt g e).2⟩
theorem LLb.out {R h n lo hi : Nat} {vs : Nat → Value} {M : Nat → List Int} {w w' : World} (k : LLb R h n vs M w) (ho : Out lo hi w w') (hl : h ≤ lo ∨ hi ≤ R) : LLb R h n vs M w' := by
  obtain ⟨k1, k2, k3, k4⟩ := k
  have hs : Stay R h w w' := ho.stay k3 hl
  refine ⟨⟨k1.row.of_block (hs R (Nat.le_refl _) k2), fun i hi' => ownsRow_stay (k1.own i hi') (fun g e => k4 i hi' g e) (hs.mono (Nat.le_succ _) (Nat.le_refl _)), k1.ap⟩, k2, Nat.le_trans k3 ho.size, k4⟩
def TwoP (W : World) (cs ms : List Value) (bm lm hm : Nat) (y : LFn) (n : Nat) (M : Nat → List Int) (s6 s7 : Value) (w : World) : Prop :=
  ∃ R1 vs1 h1 R2 vs2 h2, s6 = .slice (some ⟨R1, 0, none⟩) n n ∧ s7 = .slice (some ⟨R2, 0, none⟩) n n ∧ TS W cs ms bm lm hm y w ∧ LLb R1 h1 n vs1 M w ∧ LLb R2 h2 n vs2 M w ∧ bm < R1 ∧ h1 ≤ R2
theorem fnsm_same {x y : LFn} (e : fnD y = fnD x) (h : FnSm x) : FnSm y := by
  intro c hc
  have h1 : blkD c ∈ (fnD y).bs := List.mem_map_of_mem hc
  rw [e] at h1
  obtain ⟨c', hc', e'⟩ := List.mem_map.1 h1
  rw [← e']
  exact h c' hc'
theorem FnOwn.le {a b : Nat} {w : World} {y : LFn} (h : FnOwn a b w y) : a ≤ b := by
  obtain ⟨d, h1, h2⟩ := h
  exact Nat.le_trans h1.le h2.le
set_option maxRecDepth 100000 in
set_option maxHeartbeats 8000000 in
theorem tells_walk (W : World) (f : LFn) (b : Int) (hf : FnIn W.heap.size W f) (hs : FnSm f) (hbs : f.bs.length ≤ 1048576) (hw : FnTw f) (hz : fnZ (fnD f) ≤ 1048576) :
    Calls Try.prog 3 #[.agg (fnC f).toArray, .int .i64 b] W fun e w' => e = .returned (.bool true) ∧ Below W.heap.size W w' := by
  have cl := lives_any
  have hSn : ∀ b, (succP (fnD f).bs b).Nodup ∧ ∀ t ∈ succP (fnD f).bs b, t < f.bs.length := fun b => ⟨succP_nodup _ b, fun t ht => by
    have := succP_lt _ _ t ht
    simpa [fnD] using this⟩
  obtain ⟨L, hL⟩ := order_ex (fun b => (hSn b).2)
  have hP := (Past.refl (Nat.le_refl W.heap.size)).alloc (.cells (fnC f).toArray 25)
  have A1 : Box W.heap.size (fnC f) (W.alloc (.cells (fnC f).toArray 25)) := Box.new W rfl _ _
  have cF : ∀ w, Below W.heap.size W w → FnIn w.heap.size w f := fun w h => past_lasts lasts_Fn hf ⟨Nat.le_refl _, h⟩
  have cLo : ∀ w, Below W.heap.size W w → Calls Try.prog 8 #[.agg (fnC f).toArray] w (SomeBool w) := fun w h => Long_any f w (cF w h) hbs
  have cCo : ∀ w, Below W.heap.size W w → Calls Try.prog 9 #[.agg (fnC f).toArray] w fun e w' => ∃ y, e = .returned (.agg (fnC y).toArray) ∧ fnD y = fnD f ∧ Past w.heap.size w w' ∧ FnOwn w.heap.size w'.heap.size w' y := fun w h => rCopyFunc_own f w (cF w h) hz
  have cSu : ∀ w, Below W.heap.size W w → Calls Try.prog 12 #[.agg (fnC f).toArray, .int .i64 b] w (OwnInts (succI (fnD f).bs b) w) := fun w h => rSuccs_own f b w (cF w h) hs
  have cRe : ∀ w, Below W.heap.size W w → Calls Try.prog 15 #[.agg (fnC f).toArray] w (OwnBools f.bs.length (fun i => decide (i ∈ L)) w) := fun w h => rReach_own f w (cF w h) hs hbs L hL
  have cOr : ∀ w, Below W.heap.size W w → Calls Try.prog 17 #[.agg (fnC f).toArray] w (LiesInts L w) := fun w h => rOrder_own f w (cF w h) hs hbs L hL
  have cPr : ∀ w, Below W.heap.size W w → Calls Try.prog 19 #[.agg (fnC f).toArray] w (OwnLL f.bs.length (fun t => ints (predUpto (succP (fnD f).bs) f.bs.length t)) w) := fun w h => rPreds_own f w (cF w h) hs hbs
  -- of any copy
  have hlen : ∀ y : LFn, fnD y = fnD f → y.bs.length = f.bs.length := fun y e => by
    have h1 : (fnD y).bs.length = (fnD f).bs.length := by rw [e]
    simpa [fnD] using h1
  have hsm : ∀ y : LFn, fnD y = fnD f → FnSm y := fun y e => fnsm_same e hs
  have mSu : ∀ (y : LFn), fnD y = fnD f → ∀ w, FnIn w.heap.size w y → Calls Try.prog 11 #[.agg (fnC y).toArray, .int .i64 b] w (OwnInts (succI (fnD f).bs b) w) := fun y e w h => by
    have := Succs_own y b w h (hsm y e)
    rw [e] at this; exact this
  have mRe : ∀ (y : LFn), fnD y = fnD f → ∀ w, FnIn w.heap.size w y → Calls Try.prog 14 #[.agg (fnC y).toArray] w (OwnBools f.bs.length (fun i => decide (i ∈ L)) w) := fun y e w h => by
    have := Reach_own y w h (hsm y e) (by rw [hlen y e]; exact hbs) L (by rw [e, hlen y e]; exact hL)
    rw [hlen y e] at this; exact this
  have mOr : ∀ (y : LFn), fnD y = fnD f → ∀ w, FnIn w.heap.size w y → Calls Try.prog 16 #[.agg (fnC y).toArray] w (OwnInts L w) := fun y e w h =>
    Order_own y w h (hsm y e) (by rw [hlen y e]; exact hbs) L (by rw [e, hlen y e]; exact hL)
  have mPr : ∀ (y : LFn), fnD y = fnD f → ∀ w, FnIn w.heap.size w y → Calls Try.prog 18 #[.agg (fnC y).toArray] w (OwnLL f.bs.length (fun t => ints (predUpto (succP (fnD f).bs) f.bs.length t)) w) := fun y e w h => by
    have := Preds_own y w h (hsm y e) (by rw [hlen y e]; exact hbs)
    rw [e, hlen y e] at this; exact this
  have mFu : ∀ (y : LFn), fnD y = fnD f → ∀ w, FnIn w.heap.size w y → Below W.heap.size W w → Calls Try.prog 21 #[.agg (fnC y).toArray, .agg (fnC f).toArray] w (fun e w' => e = .returned (.bool true) ∧ Below w.heap.size w w') := fun y e w h hb => by
    refine (Funcs_any w y f h (cF w hb)).mono ?_
    rintro e2 w' ⟨bo, he, hi, hb'⟩
    obtain rfl : bo = true := hi.2 e
    exact ⟨he, hb'⟩
  obtain ⟨S, eS⟩ : ∃ S, succP (fnD f).bs = S := ⟨_, rfl⟩
  obtain ⟨T, eT⟩ : ∃ T, succI (fnD f).bs b = T := ⟨_, rfl⟩
  have hTn : T.length ≤ 1048576 := by
    rw [← eT]
    unfold succI
    split
    · have h1 := hSn b.toNat
      have := nodup_lt _ _ h1.1 h1.2
      omega
    · simp
  simp only [eS, eT] at cSu mSu cPr mPr
  obtain ⟨D, eD⟩ : ∃ D, fnD f = D := ⟨_, rfl⟩
  simp only [eD] at cCo mSu mRe mOr mPr mFu
  obtain ⟨nm, pp, pn, pc, ps, rt, bp, bn, bc, bs⟩ := f
  obtain rfl : bn = bs.length := hf.2.1
  show Calls Try.prog 3 #[.agg #[.string nm, .slice pp pn pc, .int .i64 rt, .slice bp bs.length bc], .int .i64 b] W _
  have hfc : fnC ⟨nm, pp, pn, pc, ps, rt, bp, bs.length, bc, bs⟩ = [.string nm, .slice pp pn pc, .int .i64 rt, .slice bp bs.length bc] := rfl
  rw [hfc] at A1 hP
  simp only [hfc] at cLo cCo cSu cRe cOr cPr mFu
  obtain ⟨n, en⟩ : ∃ n, bs.length = n := ⟨_, rfl⟩
  simp only [en] at cLo cCo cSu cRe cOr cPr mRe mPr mFu A1 hP hbs ⊢
  have HC := Lib.hid (And.intro cLo (And.intro cCo (And.intro cSu (And.intro cRe (And.intro cOr cPr)))))
  have HM := Lib.hid (And.intro mSu (And.intro mRe (And.intro mOr (And.intro mPr mFu))))
  have HB := Lib.hid (And.intro hP A1)
  clear cLo cCo cSu cRe cOr cPr mSu mRe mOr mPr mFu hP A1 cF hfc hf hs hL eS eT en hlen hsm hSn hw hz eD
  go_enter Try.func3, Try.ntmps3
  go_wp2_with fail
  refine (cl _).mono ?_
  rintro e w1 ⟨rfl, hb1⟩
  have H1 := Lib.hid (And.intro (HB.out.1.trans ⟨HB.out.1.size, hb1.mono HB.out.1.size⟩) (HB.out.2.later hb1))
  clear hb1 cl HB
  have b0 := H1.out.2.get 0 _ rfl
  have b1 := H1.out.2.get 1 _ rfl
  have b2 := H1.out.2.get 2 _ rfl
  have b3 := H1.out.2.get 3 _ rfl
  have c1 := HC.out.1 w1 H1.out.1.2
  go_wp2_with fail
  refine c1.mono ?_
  rintro e w2 ⟨bl, rfl, hb2⟩
  have H2 := Lib.hid (And.intro (H1.out.1.trans ⟨H1.out.1.size, hb2.mono H1.out.1.size⟩) (H1.out.2.later hb2))
  clear hb2 c1 H1 b0 b1 b2 b3
  cases bl
  case true =>
    go_wp2
    go_ret
    exact ⟨rfl, H2.out.1.2⟩
  have b0 := H2.out.2.get 0 _ rfl
  have b1 := H2.out.2.get 1 _ rfl
  have b2 := H2.out.2.get 2 _ rfl
  have b3 := H2.out.2.get 3 _ rfl
  have c1 := HC.out.2.1 w2 H2.out.1.2
  go_wp2_with fail
  refine c1.mono ?_
  rintro e w3 ⟨y, he, hdy, hp3, hoy⟩
  obtain ⟨nm1, pp1, pn1, pc1, ps1, rt1, bp1, bn1, bc1, bs1⟩ := y
  obtain rfl : e = .returned (.agg #[.string nm1, .slice pp1 pn1 pc1, .int .i64 rt1, .slice bp1 bn1 bc1]) := he
  obtain ⟨y, ey⟩ : ∃ y : LFn, y = ⟨nm1, pp1, pn1, pc1, ps1, rt1, bp1, bn1, bc1, bs1⟩ := ⟨_, rfl⟩
  rw [← ey] at hdy hoy
  have hyc : fnC y = [.string nm1, .slice pp1 pn1 pc1, .int .i64 rt1, .slice bp1 bn1 bc1] := by rw [ey]; rfl
  have mSu := HM.out.1 y hdy
  have mRe := HM.out.2.1 y hdy
  have mOr := HM.out.2.2.1 y hdy
  have mPr := HM.out.2.2.2.1 y hdy
  have mFu := HM.out.2.2.2.2 y hdy
  simp only [hyc] at mSu mRe mOr mPr mFu
  have HN := Lib.hid (And.intro mSu (And.intro mRe (And.intro mOr (And.intro mPr mFu))))
  have T4 : TS W [.string nm, .slice pp pn pc, .int .i64 rt, .slice bp n bc] [.string nm1, .slice pp1 pn1 pc1, .int .i64 rt1, .slice bp1 bn1 bc1] w3.heap.size w2.heap.size w3.heap.size y (w3.alloc (.cells #[.string nm1, .slice pp1 pn1 pc1, .int .i64 rt1, .slice bp1 bn1 bc1] 25)) := by
    have hp : Past W.heap.size W w3 := H2.out.1.trans ⟨H2.out.1.size, hp3.2.mono H2.out.1.size⟩
    exact ⟨hp.alloc _, (H2.out.2.later hp3.2).alloc _, Box.new w3 rfl _ _, hoy.stays (below_stay ((Below.refl w3.heap.size w3).alloc (Nat.le_refl _) _) (Nat.le_refl _)), by simp, H2.out.2.1, Nat.le_refl _⟩
  have HT4 := Lib.hid T4
  clear c1 b0 b1 b2 b3 mSu mRe mOr mPr mFu hyc ey hdy hoy hp3 T4 H2 HM
  go_upto_region 6 with fail
  obtain ⟨w4, ew4⟩ : ∃ w4, (w3.alloc (.cells #[.string nm1, .slice pp1 pn1 pc1, .int .i64 rt1, .slice bp1 bn1 bc1] 25)) = w4 := ⟨_, rfl⟩
  simp only [ew4] at HT4 ⊢
  clear ew4
  obtain ⟨bm, ebm⟩ : ∃ bm, w3.heap.size = bm := ⟨_, rfl⟩
  simp only [ebm] at HT4 ⊢
  obtain ⟨hm, ehm⟩ : ∃ hm, hm = bm := ⟨_, rfl⟩
  have HT5 : Hid (TS W [.string nm, .slice pp pn pc, .int .i64 rt, .slice bp n bc] [.string nm1, .slice pp1 pn1 pc1, .int .i64 rt1, .slice bp1 bn1 bc1] bm w2.heap.size hm y w4) := Lib.hid (by rw [ehm]; exact HT4.out)
  clear HT4 ehm ebm
  obtain ⟨lm, elm⟩ : ∃ lm, w2.heap.size = lm := ⟨_, rfl⟩
  rw [elm] at HT5
  clear elm
  have HS : ∀ w w' : World, (w.cell? ⟨W.heap.size, 0, none⟩ = some (.string nm) ∧ w.cell? ⟨W.heap.size, 1, none⟩ = some (.slice pp pn pc) ∧ w.cell? ⟨W.heap.size, 2, none⟩ = some (.int .i64 rt) ∧ w.cell? ⟨W.heap.size, 3, none⟩ = some (.slice bp n bc) ∧ w.cell? ⟨bm, 0, none⟩ = some (.string nm1) ∧ w.cell? ⟨bm, 1, none⟩ = some (.slice pp1 pn1 pc1) ∧ w.cell? ⟨bm, 2, none⟩ = some (.int .i64 rt1) ∧ w.cell? ⟨bm, 3, none⟩ = some (.slice bp1 bn1 bc1) ∧ W.heap.size < w.heap.size ∧ bm < w.heap.size ∧ Below W.heap.size W w) → Below w.heap.size w w' → (w'.cell? ⟨W.heap.size, 0, none⟩ = some (.string nm) ∧ w'.cell? ⟨W.heap.size, 1, none⟩ = some (.slice pp pn pc) ∧ w'.cell? ⟨W.heap.size, 2, none⟩ = some (.int .i64 rt) ∧ w'.cell? ⟨W.heap.size, 3, none⟩ = some (.slice bp n bc) ∧ w'.cell? ⟨bm, 0, none⟩ = some (.string nm1) ∧ w'.cell? ⟨bm, 1, none⟩ = some (.slice pp1 pn1 pc1) ∧ w'.cell? ⟨bm, 2, none⟩ = some (.int .i64 rt1) ∧ w'.cell? ⟨bm, 3, none⟩ = some (.slice bp1 bn1 bc1) ∧ W.heap.size < w'.heap.size ∧ bm < w'.heap.size ∧ Below W.heap.size W w') := by
    rintro w w' ⟨q0, q1, q2, q3, q4, q5, q6, q7, q8, q9, q10⟩ hb
    exact ⟨(hb.cell (p := ⟨W.heap.size, 0, none⟩) q8).trans q0, (hb.cell (p := ⟨W.heap.size, 1, none⟩) q8).trans q1, (hb.cell (p := ⟨W.heap.size, 2, none⟩) q8).trans q2, (hb.cell (p := ⟨W.heap.size, 3, none⟩) q8).trans q3, (hb.cell (p := ⟨bm, 0, none⟩) q9).trans q4, (hb.cell (p := ⟨bm, 1, none⟩) q9).trans q5, (hb.cell (p := ⟨bm, 2, none⟩) q9).trans q6, (hb.cell (p := ⟨bm, 3, none⟩) q9).trans q7, Nat.lt_of_lt_of_le q8 hb.size, Nat.lt_of_lt_of_le q9 hb.size, q10.trans (hb.mono (Nat.le_of_lt q8))⟩
  have hS4 : w4.cell? ⟨W.heap.size, 0, none⟩ = some (.string nm) ∧ w4.cell? ⟨W.heap.size, 1, none⟩ = some (.slice pp pn pc) ∧ w4.cell? ⟨W.heap.size, 2, none⟩ = some (.int .i64 rt) ∧ w4.cell? ⟨W.heap.size, 3, none⟩ = some (.slice bp n bc) ∧ w4.cell? ⟨bm, 0, none⟩ = some (.string nm1) ∧ w4.cell? ⟨bm, 1, none⟩ = some (.slice pp1 pn1 pc1) ∧ w4.cell? ⟨bm, 2, none⟩ = some (.int .i64 rt1) ∧ w4.cell? ⟨bm, 3, none⟩ = some (.slice bp1 bn1 bc1) ∧ W.heap.size < w4.heap.size ∧ bm < w4.heap.size ∧ Below W.heap.size W w4 := ⟨HT5.out.box.get 0 _ rfl, HT5.out.box.get 1 _ rfl, HT5.out.box.get 2 _ rfl, HT5.out.box.get 3 _ rfl, HT5.out.mbox.get 0 _ rfl, HT5.out.mbox.get 1 _ rfl, HT5.out.mbox.get 2 _ rfl, HT5.out.mbox.get 3 _ rfl, HT5.out.box.1, HT5.out.mbox.1, HT5.out.past.2⟩
  have HSS := Lib.hid HS
  have HS4 := Lib.hid hS4
  clear HS hS4
  go_cut [40] (fun s wx => s = .bool false ∧ TS W [.string nm, .slice pp pn pc, .int .i64 rt, .slice bp n bc] [.string nm1, .slice pp1 pn1 pc1, .int .i64 rt1, .slice bp1 bn1 bc1] bm lm hm y wx)
  case first =>
    obtain ⟨k0, k1, k2, k3, k4, k5, k6, k7, k8, k9, k10⟩ := HS4.out
    have kh : Hold [fun u => TS W [.string nm, .slice pp pn pc, .int .i64 rt, .slice bp n bc] [.string nm1, .slice pp1 pn1 pc1, .int .i64 rt1, .slice bp1 bn1 bc1] bm lm hm y u] w4 := Hold.one HT5.out.all
    have cA : ∀ w, ((w.cell? ⟨W.heap.size, 0, none⟩ = some (.string nm) ∧ w.cell? ⟨W.heap.size, 1, none⟩ = some (.slice pp pn pc) ∧ w.cell? ⟨W.heap.size, 2, none⟩ = some (.int .i64 rt) ∧ w.cell? ⟨W.heap.size, 3, none⟩ = some (.slice bp n bc) ∧ w.cell? ⟨bm, 0, none⟩ = some (.string nm1) ∧ w.cell? ⟨bm, 1, none⟩ = some (.slice pp1 pn1 pc1) ∧ w.cell? ⟨bm, 2, none⟩ = some (.int .i64 rt1) ∧ w.cell? ⟨bm, 3, none⟩ = some (.slice bp1 bn1 bc1) ∧ W.heap.size < w.heap.size ∧ bm < w.heap.size ∧ Below W.heap.size W w) ∧ Hold [fun u => TS W [.string nm, .slice pp pn pc, .int .i64 rt, .slice bp n bc] [.string nm1, .slice pp1 pn1 pc1, .int .i64 rt1, .slice bp1 bn1 bc1] bm lm hm y u] w) → Calls Try.prog 11 #[.agg #[.string nm1, .slice pp1 pn1 pc1, .int .i64 rt1, .slice bp1 bn1 bc1], .int .i64 b] w fun e w' => ∃ p c, e = .returned (.slice p T.length c) ∧ w'.cell? ⟨W.heap.size, 0, none⟩ = some (.string nm) ∧ w'.cell? ⟨W.heap.size, 1, none⟩ = some (.slice pp pn pc) ∧ w'.cell? ⟨W.heap.size, 2, none⟩ = some (.int .i64 rt) ∧ w'.cell? ⟨W.heap.size, 3, none⟩ = some (.slice bp n bc) ∧ w'.cell? ⟨bm, 0, none⟩ = some (.string nm1) ∧ w'.cell? ⟨bm, 1, none⟩ = some (.slice pp1 pn1 pc1) ∧ w'.cell? ⟨bm, 2, none⟩ = some (.int .i64 rt1) ∧ w'.cell? ⟨bm, 3, none⟩ = some (.slice bp1 bn1 bc1) ∧ W.heap.size < w'.heap.size ∧ bm < w'.heap.size ∧ Below W.heap.size W w' ∧ Hold [OrdQ p c T, fun u => TS W [.string nm, .slice pp pn pc, .int .i64 rt, .slice bp n bc] [.string nm1, .slice pp1 pn1 pc1, .int .i64 rt1, .slice bp1 bn1 bc1] bm lm hm y u] w' := by
      rintro w ⟨k, kh⟩
      refine (HN.out.1 w (kh.get (fun u => TS W [.string nm, .slice pp pn pc, .int .i64 rt, .slice bp n bc] [.string nm1, .slice pp1 pn1 pc1, .int .i64 rt1, .slice bp1 bn1 bc1] bm lm hm y u) (.head _)).mine).mono ?_
      rintro e w' ⟨p, c, he, hp, hl⟩
      obtain ⟨q0, q1, q2, q3, q4, q5, q6, q7, q8, q9, q10⟩ := HSS.out w w' k hp.2
      exact ⟨p, c, he, q0, q1, q2, q3, q4, q5, q6, q7, q8, q9, q10, kh.cons hp.2 (OrdQ.all (ints_in hl (Nat.le_refl _)))⟩
    have cB : ∀ p c w, ((w.cell? ⟨W.heap.size, 0, none⟩ = some (.string nm) ∧ w.cell? ⟨W.heap.size, 1, none⟩ = some (.slice pp pn pc) ∧ w.cell? ⟨W.heap.size, 2, none⟩ = some (.int .i64 rt) ∧ w.cell? ⟨W.heap.size, 3, none⟩ = some (.slice bp n bc) ∧ w.cell? ⟨bm, 0, none⟩ = some (.string nm1) ∧ w.cell? ⟨bm, 1, none⟩ = some (.slice pp1 pn1 pc1) ∧ w.cell? ⟨bm, 2, none⟩ = some (.int .i64 rt1) ∧ w.cell? ⟨bm, 3, none⟩ = some (.slice bp1 bn1 bc1) ∧ W.heap.size < w.heap.size ∧ bm < w.heap.size ∧ Below W.heap.size W w) ∧ Hold [OrdQ p c T, fun u => TS W [.string nm, .slice pp pn pc, .int .i64 rt, .slice bp n bc] [.string nm1, .slice pp1 pn1 pc1, .int .i64 rt1, .slice bp1 bn1 bc1] bm lm hm y u] w) → Calls Try.prog 12 #[.agg #[.string nm, .slice pp pn pc, .int .i64 rt, .slice bp n bc], .int .i64 b] w fun e w' => ∃ p2 c2, e = .returned (.slice p2 T.length c2) ∧ w'.cell? ⟨W.heap.size, 0, none⟩ = some (.string nm) ∧ w'.cell? ⟨W.heap.size, 1, none⟩ = some (.slice pp pn pc) ∧ w'.cell? ⟨W.heap.size, 2, none⟩ = some (.int .i64 rt) ∧ w'.cell? ⟨W.heap.size, 3, none⟩ = some (.slice bp n bc) ∧ w'.cell? ⟨bm, 0, none⟩ = some (.string nm1) ∧ w'.cell? ⟨bm, 1, none⟩ = some (.slice pp1 pn1 pc1) ∧ w'.cell? ⟨bm, 2, none⟩ = some (.int .i64 rt1) ∧ w'.cell? ⟨bm, 3, none⟩ = some (.slice bp1 bn1 bc1) ∧ W.heap.size < w'.heap.size ∧ bm < w'.heap.size ∧ Below W.heap.size W w' ∧ Hold [OrdQ p2 c2 T, OrdQ p c T, fun u => TS W [.string nm, .slice pp pn pc, .int .i64 rt, .slice bp n bc] [.string nm1, .slice pp1 pn1 pc1, .int .i64 rt1, .slice bp1 bn1 bc1] bm lm hm y u] w' := by
      rintro p c w ⟨k, kh⟩
      refine (HC.out.2.2.1 w k.2.2.2.2.2.2.2.2.2.2).mono ?_
      rintro e w' ⟨p2, c2, he, hp, hl⟩
      obtain ⟨q0, q1, q2, q3, q4, q5, q6, q7, q8, q9, q10⟩ := HSS.out w w' k hp.2
      exact ⟨p2, c2, he, q0, q1, q2, q3, q4, q5, q6, q7, q8, q9, q10, kh.cons hp.2 (OrdQ.all (ints_in hl (Nat.le_refl _)))⟩
    have cC : ∀ L p c p2 c2 w, ((w.cell? ⟨W.heap.size, 0, none⟩ = some (.string nm) ∧ w.cell? ⟨W.heap.size, 1, none⟩ = some (.slice pp pn pc) ∧ w.cell? ⟨W.heap.size, 2, none⟩ = some (.int .i64 rt) ∧ w.cell? ⟨W.heap.size, 3, none⟩ = some (.slice bp n bc) ∧ w.cell? ⟨bm, 0, none⟩ = some (.string nm1) ∧ w.cell? ⟨bm, 1, none⟩ = some (.slice pp1 pn1 pc1) ∧ w.cell? ⟨bm, 2, none⟩ = some (.int .i64 rt1) ∧ w.cell? ⟨bm, 3, none⟩ = some (.slice bp1 bn1 bc1) ∧ W.heap.size < w.heap.size ∧ bm < w.heap.size ∧ Below W.heap.size W w) ∧ Hold [OrdQ p2 c2 L, OrdQ p c L, fun u => TS W [.string nm, .slice pp pn pc, .int .i64 rt, .slice bp n bc] [.string nm1, .slice pp1 pn1 pc1, .int .i64 rt1, .slice bp1 bn1 bc1] bm lm hm y u] w) → Calls Try.prog 10 #[.slice p L.length c, .slice p2 L.length c2] w fun e w' => e = .returned (.bool true) ∧ w'.cell? ⟨W.heap.size, 0, none⟩ = some (.string nm) ∧ w'.cell? ⟨W.heap.size, 1, none⟩ = some (.slice pp pn pc) ∧ w'.cell? ⟨W.heap.size, 2, none⟩ = some (.int .i64 rt) ∧ w'.cell? ⟨W.heap.size, 3, none⟩ = some (.slice bp n bc) ∧ w'.cell? ⟨bm, 0, none⟩ = some (.string nm1) ∧ w'.cell? ⟨bm, 1, none⟩ = some (.slice pp1 pn1 pc1) ∧ w'.cell? ⟨bm, 2, none⟩ = some (.int .i64 rt1) ∧ w'.cell? ⟨bm, 3, none⟩ = some (.slice bp1 bn1 bc1) ∧ W.heap.size < w'.heap.size ∧ bm < w'.heap.size ∧ Below W.heap.size W w' ∧ Hold [fun u => TS W [.string nm, .slice pp pn pc, .int .i64 rt, .slice bp n bc] [.string nm1, .slice pp1 pn1 pc1, .int .i64 rt1, .slice bp1 bn1 bc1] bm lm hm y u] w' := by
      rintro L p c p2 c2 w ⟨k, kh⟩
      refine (Ints_any w p p2 L.length L.length c c2 (ints L) (ints L) (kh.get (OrdQ p c L) (.tail _ (.head _))) (kh.get (OrdQ p2 c2 L) (.head _))).mono ?_
      rintro e w' ⟨bo, he, hi, hb⟩
      obtain ⟨q0, q1, q2, q3, q4, q5, q6, q7, q8, q9, q10⟩ := HSS.out w w' k hb
      exact ⟨by rw [he, hi.2 rfl], q0, q1, q2, q3, q4, q5, q6, q7, q8, q9, q10, (Hold.one (kh.get (fun u => TS W [.string nm, .slice pp pn pc, .int .i64 rt, .slice bp n bc] [.string nm1, .slice pp1 pn1 pc1, .int .i64 rt1, .slice bp1 bn1 bc1] bm lm hm y u) (.tail _ (.tail _ (.head _)))).all).later hb⟩
    have cD : ∀ w, ((w.cell? ⟨W.heap.size, 0, none⟩ = some (.string nm) ∧ w.cell? ⟨W.heap.size, 1, none⟩ = some (.slice pp pn pc) ∧ w.cell? ⟨W.heap.size, 2, none⟩ = some (.int .i64 rt) ∧ w.cell? ⟨W.heap.size, 3, none⟩ = some (.slice bp n bc) ∧ w.cell? ⟨bm, 0, none⟩ = some (.string nm1) ∧ w.cell? ⟨bm, 1, none⟩ = some (.slice pp1 pn1 pc1) ∧ w.cell? ⟨bm, 2, none⟩ = some (.int .i64 rt1) ∧ w.cell? ⟨bm, 3, none⟩ = some (.slice bp1 bn1 bc1) ∧ W.heap.size < w.heap.size ∧ bm < w.heap.size ∧ Below W.heap.size W w) ∧ Hold [fun u => TS W [.string nm, .slice pp pn pc, .int .i64 rt, .slice bp n bc] [.string nm1, .slice pp1 pn1 pc1, .int .i64 rt1, .slice bp1 bn1 bc1] bm lm hm y u] w) → Calls Try.prog 14 #[.agg #[.string nm1, .slice pp1 pn1 pc1, .int .i64 rt1, .slice bp1 bn1 bc1]] w fun e w' => ∃ R, e = .returned (.slice (some ⟨R, 0, none⟩) n n) ∧ w'.cell? ⟨W.heap.size, 0, none⟩ = some (.string nm) ∧ w'.cell? ⟨W.heap.size, 1, none⟩ = some (.slice pp pn pc) ∧ w'.cell? ⟨W.heap.size, 2, none⟩ = some (.int .i64 rt) ∧ w'.cell? ⟨W.heap.size, 3, none⟩ = some (.slice bp n bc) ∧ w'.cell? ⟨bm, 0, none⟩ = some (.string nm1) ∧ w'.cell? ⟨bm, 1, none⟩ = some (.slice pp1 pn1 pc1) ∧ w'.cell? ⟨bm, 2, none⟩ = some (.int .i64 rt1) ∧ w'.cell? ⟨bm, 3, none⟩ = some (.slice bp1 bn1 bc1) ∧ W.heap.size < w'.heap.size ∧ bm < w'.heap.size ∧ Below W.heap.size W w' ∧ Hold [ReachQ R n L, fun u => TS W [.string nm, .slice pp pn pc, .int .i64 rt, .slice bp n bc] [.string nm1, .slice pp1 pn1 pc1, .int .i64 rt1, .slice bp1 bn1 bc1] bm lm hm y u] w' := by
      rintro w ⟨k, kh⟩
      refine (HN.out.2.1 w (kh.get (fun u => TS W [.string nm, .slice pp pn pc, .int .i64 rt, .slice bp n bc] [.string nm1, .slice pp1 pn1 pc1, .int .i64 rt1, .slice bp1 bn1 bc1] bm lm hm y u) (.head _)).mine).mono ?_
      rintro e w' ⟨R, he, hp, hR, hl⟩
      obtain ⟨q0, q1, q2, q3, q4, q5, q6, q7, q8, q9, q10⟩ := HSS.out w w' k hp.2
      exact ⟨R, he, q0, q1, q2, q3, q4, q5, q6, q7, q8, q9, q10, kh.cons hp.2 (ReachQ.all hl)⟩
    have cE : ∀ R w, ((w.cell? ⟨W.heap.size, 0, none⟩ = some (.string nm) ∧ w.cell? ⟨W.heap.size, 1, none⟩ = some (.slice pp pn pc) ∧ w.cell? ⟨W.heap.size, 2, none⟩ = some (.int .i64 rt) ∧ w.cell? ⟨W.heap.size, 3, none⟩ = some (.slice bp n bc) ∧ w.cell? ⟨bm, 0, none⟩ = some (.string nm1) ∧ w.cell? ⟨bm, 1, none⟩ = some (.slice pp1 pn1 pc1) ∧ w.cell? ⟨bm, 2, none⟩ = some (.int .i64 rt1) ∧ w.cell? ⟨bm, 3, none⟩ = some (.slice bp1 bn1 bc1) ∧ W.heap.size < w.heap.size ∧ bm < w.heap.size ∧ Below W.heap.size W w) ∧ Hold [ReachQ R n L, fun u => TS W [.string nm, .slice pp pn pc, .int .i64 rt, .slice bp n bc] [.string nm1, .slice pp1 pn1 pc1, .int .i64 rt1, .slice bp1 bn1 bc1] bm lm hm y u] w) → Calls Try.prog 15 #[.agg #[.string nm, .slice pp pn pc, .int .i64 rt, .slice bp n bc]] w fun e w' => ∃ R2, e = .returned (.slice (some ⟨R2, 0, none⟩) n n) ∧ w'.cell? ⟨W.heap.size, 0, none⟩ = some (.string nm) ∧ w'.cell? ⟨W.heap.size, 1, none⟩ = some (.slice pp pn pc) ∧ w'.cell? ⟨W.heap.size, 2, none⟩ = some (.int .i64 rt) ∧ w'.cell? ⟨W.heap.size, 3, none⟩ = some (.slice bp n bc) ∧ w'.cell? ⟨bm, 0, none⟩ = some (.string nm1) ∧ w'.cell? ⟨bm, 1, none⟩ = some (.slice pp1 pn1 pc1) ∧ w'.cell? ⟨bm, 2, none⟩ = some (.int .i64 rt1) ∧ w'.cell? ⟨bm, 3, none⟩ = some (.slice bp1 bn1 bc1) ∧ W.heap.size < w'.heap.size ∧ bm < w'.heap.size ∧ Below W.heap.size W w' ∧ Hold [ReachQ R2 n L, ReachQ R n L, fun u => TS W [.string nm, .slice pp pn pc, .int .i64 rt, .slice bp n bc] [.string nm1, .slice pp1 pn1 pc1, .int .i64 rt1, .slice bp1 bn1 bc1] bm lm hm y u] w' := by
      rintro R w ⟨k, kh⟩
      refine (HC.out.2.2.2.1 w k.2.2.2.2.2.2.2.2.2.2).mono ?_
      rintro e w' ⟨R2, he, hp, hR, hl⟩
      obtain ⟨q0, q1, q2, q3, q4, q5, q6, q7, q8, q9, q10⟩ := HSS.out w w' k hp.2
      exact ⟨R2, he, q0, q1, q2, q3, q4, q5, q6, q7, q8, q9, q10, kh.cons hp.2 (ReachQ.all hl)⟩
    have cG : ∀ R R2 w, ((w.cell? ⟨W.heap.size, 0, none⟩ = some (.string nm) ∧ w.cell? ⟨W.heap.size, 1, none⟩ = some (.slice pp pn pc) ∧ w.cell? ⟨W.heap.size, 2, none⟩ = some (.int .i64 rt) ∧ w.cell? ⟨W.heap.size, 3, none⟩ = some (.slice bp n bc) ∧ w.cell? ⟨bm, 0, none⟩ = some (.string nm1) ∧ w.cell? ⟨bm, 1, none⟩ = some (.slice pp1 pn1 pc1) ∧ w.cell? ⟨bm, 2, none⟩ = some (.int .i64 rt1) ∧ w.cell? ⟨bm, 3, none⟩ = some (.slice bp1 bn1 bc1) ∧ W.heap.size < w.heap.size ∧ bm < w.heap.size ∧ Below W.heap.size W w) ∧ Hold [ReachQ R2 n L, ReachQ R n L, fun u => TS W [.string nm, .slice pp pn pc, .int .i64 rt, .slice bp n bc] [.string nm1, .slice pp1 pn1 pc1, .int .i64 rt1, .slice bp1 bn1 bc1] bm lm hm y u] w) → Calls Try.prog 13 #[.slice (some ⟨R, 0, none⟩) n n, .slice (some ⟨R2, 0, none⟩) n n] w fun e w' => e = .returned (.bool true) ∧ w'.cell? ⟨W.heap.size, 0, none⟩ = some (.string nm) ∧ w'.cell? ⟨W.heap.size, 1, none⟩ = some (.slice pp pn pc) ∧ w'.cell? ⟨W.heap.size, 2, none⟩ = some (.int .i64 rt) ∧ w'.cell? ⟨W.heap.size, 3, none⟩ = some (.slice bp n bc) ∧ w'.cell? ⟨bm, 0, none⟩ = some (.string nm1) ∧ w'.cell? ⟨bm, 1, none⟩ = some (.slice pp1 pn1 pc1) ∧ w'.cell? ⟨bm, 2, none⟩ = some (.int .i64 rt1) ∧ w'.cell? ⟨bm, 3, none⟩ = some (.slice bp1 bn1 bc1) ∧ W.heap.size < w'.heap.size ∧ bm < w'.heap.size ∧ Below W.heap.size W w' ∧ Hold [fun u => TS W [.string nm, .slice pp pn pc, .int .i64 rt, .slice bp n bc] [.string nm1, .slice pp1 pn1 pc1, .int .i64 rt1, .slice bp1 bn1 bc1] bm lm hm y u] w' := by
      rintro R R2 w ⟨k, kh⟩
      refine (bools_same R R2 n (fun i => decide (i ∈ L)) w (kh.get (ReachQ R n L) (.tail _ (.head _))) (kh.get (ReachQ R2 n L) (.head _)) hbs).mono ?_
      rintro e w' ⟨he, hb⟩
      obtain ⟨q0, q1, q2, q3, q4, q5, q6, q7, q8, q9, q10⟩ := HSS.out w w' k hb
      exact ⟨he, q0, q1, q2, q3, q4, q5, q6, q7, q8, q9, q10, (Hold.one (kh.get (fun u => TS W [.string nm, .slice pp pn pc, .int .i64 rt, .slice bp n bc] [.string nm1, .slice pp1 pn1 pc1, .int .i64 rt1, .slice bp1 bn1 bc1] bm lm hm y u) (.tail _ (.tail _ (.head _)))).all).later hb⟩
    have cH : ∀ w, ((w.cell? ⟨W.heap.size, 0, none⟩ = some (.string nm) ∧ w.cell? ⟨W.heap.size, 1, none⟩ = some (.slice pp pn pc) ∧ w.cell? ⟨W.heap.size, 2, none⟩ = some (.int .i64 rt) ∧ w.cell? ⟨W.heap.size, 3, none⟩ = some (.slice bp n bc) ∧ w.cell? ⟨bm, 0, none⟩ = some (.string nm1) ∧ w.cell? ⟨bm, 1, none⟩ = some (.slice pp1 pn1 pc1) ∧ w.cell? ⟨bm, 2, none⟩ = some (.int .i64 rt1) ∧ w.cell? ⟨bm, 3, none⟩ = some (.slice bp1 bn1 bc1) ∧ W.heap.size < w.heap.size ∧ bm < w.heap.size ∧ Below W.heap.size W w) ∧ Hold [fun u => TS W [.string nm, .slice pp pn pc, .int .i64 rt, .slice bp n bc] [.string nm1, .slice pp1 pn1 pc1, .int .i64 rt1, .slice bp1 bn1 bc1] bm lm hm y u] w) → Calls Try.prog 16 #[.agg #[.string nm1, .slice pp1 pn1 pc1, .int .i64 rt1, .slice bp1 bn1 bc1]] w fun e w' => ∃ p c, e = .returned (.slice p L.length c) ∧ w'.cell? ⟨W.heap.size, 0, none⟩ = some (.string nm) ∧ w'.cell? ⟨W.heap.size, 1, none⟩ = some (.slice pp pn pc) ∧ w'.cell? ⟨W.heap.size, 2, none⟩ = some (.int .i64 rt) ∧ w'.cell? ⟨W.heap.size, 3, none⟩ = some (.slice bp n bc) ∧ w'.cell? ⟨bm, 0, none⟩ = some (.string nm1) ∧ w'.cell? ⟨bm, 1, none⟩ = some (.slice pp1 pn1 pc1) ∧ w'.cell? ⟨bm, 2, none⟩ = some (.int .i64 rt1) ∧ w'.cell? ⟨bm, 3, none⟩ = some (.slice bp1 bn1 bc1) ∧ W.heap.size < w'.heap.size ∧ bm < w'.heap.size ∧ Below W.heap.size W w' ∧ Hold [OrdQ p c L, fun u => TS W [.string nm, .slice pp pn pc, .int .i64 rt, .slice bp n bc] [.string nm1, .slice pp1 pn1 pc1, .int .i64 rt1, .slice bp1 bn1 bc1] bm lm hm y u] w' := by
      rintro w ⟨k, kh⟩
      refine (HN.out.2.2.1 w (kh.get (fun u => TS W [.string nm, .slice pp pn pc, .int .i64 rt, .slice bp n bc] [.string nm1, .slice pp1 pn1 pc1, .int .i64 rt1, .slice bp1 bn1 bc1] bm lm hm y u) (.head _)).mine).mono ?_
      rintro e w' ⟨p, c, he, hp, hl⟩
      obtain ⟨q0, q1, q2, q3, q4, q5, q6, q7, q8, q9, q10⟩ := HSS.out w w' k hp.2
      exact ⟨p, c, he, q0, q1, q2, q3, q4, q5, q6, q7, q8, q9, q10, kh.cons hp.2 (OrdQ.all (ints_in hl (Nat.le_refl _)))⟩
    have cJ : ∀ p c w, ((w.cell? ⟨W.heap.size, 0, none⟩ = some (.string nm) ∧ w.cell? ⟨W.heap.size, 1, none⟩ = some (.slice pp pn pc) ∧ w.cell? ⟨W.heap.size, 2, none⟩ = some (.int .i64 rt) ∧ w.cell? ⟨W.heap.size, 3, none⟩ = some (.slice bp n bc) ∧ w.cell? ⟨bm, 0, none⟩ = some (.string nm1) ∧ w.cell? ⟨bm, 1, none⟩ = some (.slice pp1 pn1 pc1) ∧ w.cell? ⟨bm, 2, none⟩ = some (.int .i64 rt1) ∧ w.cell? ⟨bm, 3, none⟩ = some (.slice bp1 bn1 bc1) ∧ W.heap.size < w.heap.size ∧ bm < w.heap.size ∧ Below W.heap.size W w) ∧ Hold [OrdQ p c L, fun u => TS W [.string nm, .slice pp pn pc, .int .i64 rt, .slice bp n bc] [.string nm1, .slice pp1 pn1 pc1, .int .i64 rt1, .slice bp1 bn1 bc1] bm lm hm y u] w) → Calls Try.prog 17 #[.agg #[.string nm, .slice pp pn pc, .int .i64 rt, .slice bp n bc]] w fun e w' => ∃ p2 c2, e = .returned (.slice p2 L.length c2) ∧ w'.cell? ⟨W.heap.size, 0, none⟩ = some (.string nm) ∧ w'.cell? ⟨W.heap.size, 1, none⟩ = some (.slice pp pn pc) ∧ w'.cell? ⟨W.heap.size, 2, none⟩ = some (.int .i64 rt) ∧ w'.cell? ⟨W.heap.size, 3, none⟩ = some (.slice bp n bc) ∧ w'.cell? ⟨bm, 0, none⟩ = some (.string nm1) ∧ w'.cell? ⟨bm, 1, none⟩ = some (.slice pp1 pn1 pc1) ∧ w'.cell? ⟨bm, 2, none⟩ = some (.int .i64 rt1) ∧ w'.cell? ⟨bm, 3, none⟩ = some (.slice bp1 bn1 bc1) ∧ W.heap.size < w'.heap.size ∧ bm < w'.heap.size ∧ Below W.heap.size W w' ∧ Hold [OrdQ p2 c2 L, OrdQ p c L, fun u => TS W [.string nm, .slice pp pn pc, .int .i64 rt, .slice bp n bc] [.string nm1, .slice pp1 pn1 pc1, .int .i64 rt1, .slice bp1 bn1 bc1] bm lm hm y u] w' := by
      rintro p c w ⟨k, kh⟩
      refine (HC.out.2.2.2.2.1 w k.2.2.2.2.2.2.2.2.2.2).mono ?_
      rintro e w' ⟨p2, c2, he, hp, hl⟩
      obtain ⟨q0, q1, q2, q3, q4, q5, q6, q7, q8, q9, q10⟩ := HSS.out w w' k hp.2
      exact ⟨p2, c2, he, q0, q1, q2, q3, q4, q5, q6, q7, q8, q9, q10, kh.cons hp.2 (OrdQ.all hl)⟩
    go_region_held3 (fun w' => w'.cell? ⟨W.heap.size, 0, none⟩ = some (.string nm) ∧ w'.cell? ⟨W.heap.size, 1, none⟩ = some (.slice pp pn pc) ∧ w'.cell? ⟨W.heap.size, 2, none⟩ = some (.int .i64 rt) ∧ w'.cell? ⟨W.heap.size, 3, none⟩ = some (.slice bp n bc) ∧ w'.cell? ⟨bm, 0, none⟩ = some (.string nm1) ∧ w'.cell? ⟨bm, 1, none⟩ = some (.slice pp1 pn1 pc1) ∧ w'.cell? ⟨bm, 2, none⟩ = some (.int .i64 rt1) ∧ w'.cell? ⟨bm, 3, none⟩ = some (.slice bp1 bn1 bc1) ∧ W.heap.size < w'.heap.size ∧ bm < w'.heap.size ∧ Below W.heap.size W w')
      (((try dsimp only); (repeat' apply And.intro) <;> (first | (with_reducible assumption) | (rw [World.cell?_drew]; with_reducible assumption) | (with_reducible apply below_drew; with_reducible assumption) | (simp <;> omega))))
      (first
        | ((with_reducible refine' (cA _ ?pre).mono ?_)
           case pre => (refine ⟨⟨?_, ?_, ?_, ?_, ?_, ?_, ?_, ?_, ?_, ?_, ?_⟩, ?_⟩ <;> (first | (with_reducible assumption) | (rw [World.cell?_drew]; with_reducible assumption) | (with_reducible apply below_drew; with_reducible assumption) | (with_reducible apply Hold.drew; with_reducible assumption) | (simp <;> omega) | omega))
           rintro e wsa ⟨pa, ca, rfl, sa0, sa1, sa2, sa3, sa4, sa5, sa6, sa7, sa8, sa9, sa10, sah⟩)
        | ((with_reducible refine' (cB _ _ _ ?pre).mono ?_)
           case pre => (refine ⟨⟨?_, ?_, ?_, ?_, ?_, ?_, ?_, ?_, ?_, ?_, ?_⟩, ?_⟩ <;> (first | (with_reducible assumption) | (rw [World.cell?_drew]; with_reducible assumption) | (with_reducible apply below_drew; with_reducible assumption) | (with_reducible apply Hold.drew; with_reducible assumption) | (simp <;> omega) | omega))
           rintro e wsb ⟨pb, cb, rfl, sb0, sb1, sb2, sb3, sb4, sb5, sb6, sb7, sb8, sb9, sb10, sbh⟩)
        | ((with_reducible refine' (cC T _ _ _ _ _ ?pre).mono ?_)
           case pre => (refine ⟨⟨?_, ?_, ?_, ?_, ?_, ?_, ?_, ?_, ?_, ?_, ?_⟩, ?_⟩ <;> (first | (with_reducible assumption) | (rw [World.cell?_drew]; with_reducible assumption) | (with_reducible apply below_drew; with_reducible assumption) | (with_reducible apply Hold.drew; with_reducible assumption) | (simp <;> omega) | omega))
           rintro e wsc ⟨rfl, sc0, sc1, sc2, sc3, sc4, sc5, sc6, sc7, sc8, sc9, sc10, sch⟩)
        | ((with_reducible refine' (cC L _ _ _ _ _ ?pre).mono ?_)
           case pre => (refine ⟨⟨?_, ?_, ?_, ?_, ?_, ?_, ?_, ?_, ?_, ?_, ?_⟩, ?_⟩ <;> (first | (with_reducible assumption) | (rw [World.cell?_drew]; with_reducible assumption) | (with_reducible apply below_drew; with_reducible assumption) | (with_reducible apply Hold.drew; with_reducible assumption) | (simp <;> omega) | omega))
           rintro e wsk ⟨rfl, sk0, sk1, sk2, sk3, sk4, sk5, sk6, sk7, sk8, sk9, sk10, skh⟩)
        | ((with_reducible refine' (cD _ ?pre).mono ?_)
           case pre => (refine ⟨⟨?_, ?_, ?_, ?_, ?_, ?_, ?_, ?_, ?_, ?_, ?_⟩, ?_⟩ <;> (first | (with_reducible assumption) | (rw [World.cell?_drew]; with_reducible assumption) | (with_reducible apply below_drew; with_reducible assumption) | (with_reducible apply Hold.drew; with_reducible assumption) | (simp <;> omega) | omega))
           rintro e wsd ⟨Ra, rfl, sd0, sd1, sd2, sd3, sd4, sd5, sd6, sd7, sd8, sd9, sd10, sdh⟩)
        | ((with_reducible refine' (cE _ _ ?pre).mono ?_)
           case pre => (refine ⟨⟨?_, ?_, ?_, ?_, ?_, ?_, ?_, ?_, ?_, ?_, ?_⟩, ?_⟩ <;> (first | (with_reducible assumption) | (rw [World.cell?_drew]; with_reducible assumption) | (with_reducible apply below_drew; with_reducible assumption) | (with_reducible apply Hold.drew; with_reducible assumption) | (simp <;> omega) | omega))
           rintro e wse ⟨Rb, rfl, se0, se1, se2, se3, se4, se5, se6, se7, se8, se9, se10, seh⟩)
        | ((with_reducible refine' (cG _ _ _ ?pre).mono ?_)
           case pre => (refine ⟨⟨?_, ?_, ?_, ?_, ?_, ?_, ?_, ?_, ?_, ?_, ?_⟩, ?_⟩ <;> (first | (with_reducible assumption) | (rw [World.cell?_drew]; with_reducible assumption) | (with_reducible apply below_drew; with_reducible assumption) | (with_reducible apply Hold.drew; with_reducible assumption) | (simp <;> omega) | omega))
           rintro e wsg ⟨rfl, sg0, sg1, sg2, sg3, sg4, sg5, sg6, sg7, sg8, sg9, sg10, sgh⟩)
        | ((with_reducible refine' (cH _ ?pre).mono ?_)
           case pre => (refine ⟨⟨?_, ?_, ?_, ?_, ?_, ?_, ?_, ?_, ?_, ?_, ?_⟩, ?_⟩ <;> (first | (with_reducible assumption) | (rw [World.cell?_drew]; with_reducible assumption) | (with_reducible apply below_drew; with_reducible assumption) | (with_reducible apply Hold.drew; with_reducible assumption) | (simp <;> omega) | omega))
           rintro e wsh ⟨ph, ch, rfl, sh0, sh1, sh2, sh3, sh4, sh5, sh6, sh7, sh8, sh9, sh10, shh⟩)
        | ((with_reducible refine' (cJ _ _ _ ?pre).mono ?_)
           case pre => (refine ⟨⟨?_, ?_, ?_, ?_, ?_, ?_, ?_, ?_, ?_, ?_, ?_⟩, ?_⟩ <;> (first | (with_reducible assumption) | (rw [World.cell?_drew]; with_reducible assumption) | (with_reducible apply below_drew; with_reducible assumption) | (with_reducible apply Hold.drew; with_reducible assumption) | (simp <;> omega) | omega))
           rintro e wsj ⟨pj, cj, rfl, sj0, sj1, sj2, sj3, sj4, sj5, sj6, sj7, sj8, sj9, sj10, sjh⟩))
    all_goals
      go_wp2_with fail
      go_meet
      exact ⟨rfl, skh.get (fun u => TS W [.string nm, .slice pp pn pc, .int .i64 rt, .slice bp n bc] [.string nm1, .slice pp1 pn1 pc1, .int .i64 rt1, .slice bp1 bn1 bc1] bm lm hm y u) (.head _)⟩
  case rest =>
    obtain ⟨rfl, hT⟩ := hcut
    generalize wc = w5 at *
    clear HS4 HT5
    have HT := Lib.hid hT
    clear hT
    go_upto_region 8 with fail
    go_cut [6, 7] (fun s6 s7 wx => TwoP W [.string nm, .slice pp pn pc, .int .i64 rt, .slice bp n bc] [.string nm1, .slice pp1 pn1 pc1, .int .i64 rt1, .slice bp1 bn1 bc1] bm lm hm y n (fun t => ints (predUpto S n t)) s6 s7 wx)
    case first =>
      have hS5 : w5.cell? ⟨W.heap.size, 0, none⟩ = some (.string nm) ∧ w5.cell? ⟨W.heap.size, 1, none⟩ = some (.slice pp pn pc) ∧ w5.cell? ⟨W.heap.size, 2, none⟩ = some (.int .i64 rt) ∧ w5.cell? ⟨W.heap.size, 3, none⟩ = some (.slice bp n bc) ∧ w5.cell? ⟨bm, 0, none⟩ = some (.string nm1) ∧ w5.cell? ⟨bm, 1, none⟩ = some (.slice pp1 pn1 pc1) ∧ w5.cell? ⟨bm, 2, none⟩ = some (.int .i64 rt1) ∧ w5.cell? ⟨bm, 3, none⟩ = some (.slice bp1 bn1 bc1) ∧ W.heap.size < w5.heap.size ∧ bm < w5.heap.size ∧ Below W.heap.size W w5 := ⟨HT.out.box.get 0 _ rfl, HT.out.box.get 1 _ rfl, HT.out.box.get 2 _ rfl, HT.out.box.get 3 _ rfl, HT.out.mbox.get 0 _ rfl, HT.out.mbox.get 1 _ rfl, HT.out.mbox.get 2 _ rfl, HT.out.mbox.get 3 _ rfl, HT.out.box.1, HT.out.mbox.1, HT.out.past.2⟩
      obtain ⟨k0, k1, k2, k3, k4, k5, k6, k7, k8, k9, k10⟩ := hS5
      have kh : Hold [(fun u => TS W [.string nm, .slice pp pn pc, .int .i64 rt, .slice bp n bc] [.string nm1, .slice pp1 pn1 pc1, .int .i64 rt1, .slice bp1 bn1 bc1] bm lm hm y u)] w5 := Hold.one HT.out.all
      have cA : ∀ w, ((w.cell? ⟨W.heap.size, 0, none⟩ = some (.string nm) ∧ w.cell? ⟨W.heap.size, 1, none⟩ = some (.slice pp pn pc) ∧ w.cell? ⟨W.heap.size, 2, none⟩ = some (.int .i64 rt) ∧ w.cell? ⟨W.heap.size, 3, none⟩ = some (.slice bp n bc) ∧ w.cell? ⟨bm, 0, none⟩ = some (.string nm1) ∧ w.cell? ⟨bm, 1, none⟩ = some (.slice pp1 pn1 pc1) ∧ w.cell? ⟨bm, 2, none⟩ = some (.int .i64 rt1) ∧ w.cell? ⟨bm, 3, none⟩ = some (.slice bp1 bn1 bc1) ∧ W.heap.size < w.heap.size ∧ bm < w.heap.size ∧ Below W.heap.size W w) ∧ Hold [(fun u => TS W [.string nm, .slice pp pn pc, .int .i64 rt, .slice bp n bc] [.string nm1, .slice pp1 pn1 pc1, .int .i64 rt1, .slice bp1 bn1 bc1] bm lm hm y u)] w) → Calls Try.prog 18 #[.agg #[.string nm1, .slice pp1 pn1 pc1, .int .i64 rt1, .slice bp1 bn1 bc1]] w fun e w' => ∃ R vs h, e = .returned (.slice (some ⟨R, 0, none⟩) n n) ∧ w'.cell? ⟨W.heap.size, 0, none⟩ = some (.string nm) ∧ w'.cell? ⟨W.heap.size, 1, none⟩ = some (.slice pp pn pc) ∧ w'.cell? ⟨W.heap.size, 2, none⟩ = some (.int .i64 rt) ∧ w'.cell? ⟨W.heap.size, 3, none⟩ = some (.slice bp n bc) ∧ w'.cell? ⟨bm, 0, none⟩ = some (.string nm1) ∧ w'.cell? ⟨bm, 1, none⟩ = some (.slice pp1 pn1 pc1) ∧ w'.cell? ⟨bm, 2, none⟩ = some (.int .i64 rt1) ∧ w'.cell? ⟨bm, 3, none⟩ = some (.slice bp1 bn1 bc1) ∧ W.heap.size < w'.heap.size ∧ bm < w'.heap.size ∧ Below W.heap.size W w' ∧ bm < R ∧ Hold [LLb R h n vs (fun t => ints (predUpto S n t)), (fun u => TS W [.string nm, .slice pp pn pc, .int .i64 rt, .slice bp n bc] [.string nm1, .slice pp1 pn1 pc1, .int .i64 rt1, .slice bp1 bn1 bc1] bm lm hm y u)] w' := by
        rintro w ⟨k, kh⟩
        refine (HN.out.2.2.2.1 w (kh.get (fun u => TS W [.string nm, .slice pp pn pc, .int .i64 rt, .slice bp n bc] [.string nm1, .slice pp1 pn1 pc1, .int .i64 rt1, .slice bp1 bn1 bc1] bm lm hm y u) (.head _)).mine).mono ?_
        rintro e w' ⟨R, vs, he, hp, hR, hl⟩
        obtain ⟨q0, q1, q2, q3, q4, q5, q6, q7, q8, q9, q10⟩ := HSS.out w w' k hp.2
        exact ⟨R, vs, w'.heap.size, he, q0, q1, q2, q3, q4, q5, q6, q7, q8, q9, q10, Nat.lt_of_lt_of_le k.2.2.2.2.2.2.2.2.2.1 hR, kh.cons hp.2 (LLb.new hl).all⟩
      have cB : ∀ R1 h1 vs1 w, ((w.cell? ⟨W.heap.size, 0, none⟩ = some (.string nm) ∧ w.cell? ⟨W.heap.size, 1, none⟩ = some (.slice pp pn pc) ∧ w.cell? ⟨W.heap.size, 2, none⟩ = some (.int .i64 rt) ∧ w.cell? ⟨W.heap.size, 3, none⟩ = some (.slice bp n bc) ∧ w.cell? ⟨bm, 0, none⟩ = some (.string nm1) ∧ w.cell? ⟨bm, 1, none⟩ = some (.slice pp1 pn1 pc1) ∧ w.cell? ⟨bm, 2, none⟩ = some (.int .i64 rt1) ∧ w.cell? ⟨bm, 3, none⟩ = some (.slice bp1 bn1 bc1) ∧ W.heap.size < w.heap.size ∧ bm < w.heap.size ∧ Below W.heap.size W w) ∧ Hold [LLb R1 h1 n vs1 (fun t => ints (predUpto S n t)), (fun u => TS W [.string nm, .slice pp pn pc, .int .i64 rt, .slice bp n bc] [.string nm1, .slice pp1 pn1 pc1, .int .i64 rt1, .slice bp1 bn1 bc1] bm lm hm y u)] w) → Calls Try.prog 18 #[.agg #[.string nm1, .slice pp1 pn1 pc1, .int .i64 rt1, .slice bp1 bn1 bc1]] w fun e w' => ∃ R vs h, e = .returned (.slice (some ⟨R, 0, none⟩) n n) ∧ w'.cell? ⟨W.heap.size, 0, none⟩ = some (.string nm) ∧ w'.cell? ⟨W.heap.size, 1, none⟩ = some (.slice pp pn pc) ∧ w'.cell? ⟨W.heap.size, 2, none⟩ = some (.int .i64 rt) ∧ w'.cell? ⟨W.heap.size, 3, none⟩ = some (.slice bp n bc) ∧ w'.cell? ⟨bm, 0, none⟩ = some (.string nm1) ∧ w'.cell? ⟨bm, 1, none⟩ = some (.slice pp1 pn1 pc1) ∧ w'.cell? ⟨bm, 2, none⟩ = some (.int .i64 rt1) ∧ w'.cell? ⟨bm, 3, none⟩ = some (.slice bp1 bn1 bc1) ∧ W.heap.size < w'.heap.size ∧ bm < w'.heap.size ∧ Below W.heap.size W w' ∧ h1 ≤ R ∧ Hold [LLb R h n vs (fun t => ints (predUpto S n t)), LLb R1 h1 n vs1 (fun t => ints (predUpto S n t)), (fun u => TS W [.string nm, .slice pp pn pc, .int .i64 rt, .slice bp n bc] [.string nm1, .slice pp1 pn1 pc1, .int .i64 rt1, .slice bp1 bn1 bc1] bm lm hm y u)] w' := by
        rintro R1 h1 vs1 w ⟨k, kh⟩
        have h1w := (kh.get (LLb R1 h1 n vs1 (fun t => ints (predUpto S n t))) (.head _)).2.2.1
        refine (HN.out.2.2.2.1 w (kh.get (fun u => TS W [.string nm, .slice pp pn pc, .int .i64 rt, .slice bp n bc] [.string nm1, .slice pp1 pn1 pc1, .int .i64 rt1, .slice bp1 bn1 bc1] bm lm hm y u) (.tail _ (.head _))).mine).mono ?_
        rintro e w' ⟨R, vs, he, hp, hR, hl⟩
        obtain ⟨q0, q1, q2, q3, q4, q5, q6, q7, q8, q9, q10⟩ := HSS.out w w' k hp.2
        exact ⟨R, vs, w'.heap.size, he, q0, q1, q2, q3, q4, q5, q6, q7, q8, q9, q10, Nat.le_trans h1w hR, kh.cons hp.2 (LLb.new hl).all⟩
      go_region_held3 (fun w' => w'.cell? ⟨W.heap.size, 0, none⟩ = some (.string nm) ∧ w'.cell? ⟨W.heap.size, 1, none⟩ = some (.slice pp pn pc) ∧ w'.cell? ⟨W.heap.size, 2, none⟩ = some (.int .i64 rt) ∧ w'.cell? ⟨W.heap.size, 3, none⟩ = some (.slice bp n bc) ∧ w'.cell? ⟨bm, 0, none⟩ = some (.string nm1) ∧ w'.cell? ⟨bm, 1, none⟩ = some (.slice pp1 pn1 pc1) ∧ w'.cell? ⟨bm, 2, none⟩ = some (.int .i64 rt1) ∧ w'.cell? ⟨bm, 3, none⟩ = some (.slice bp1 bn1 bc1) ∧ W.heap.size < w'.heap.size ∧ bm < w'.heap.size ∧ Below W.heap.size W w')
        (((try dsimp only); (repeat' apply And.intro) <;> (first | (with_reducible assumption) | (rw [World.cell?_drew]; with_reducible assumption) | (with_reducible apply below_drew; with_reducible assumption) | (simp <;> omega))))
        (first
          | ((fail_if_success (have := M1))
             (with_reducible refine' (cA _ ?pre).mono ?_)
             case pre => (refine ⟨⟨?_, ?_, ?_, ?_, ?_, ?_, ?_, ?_, ?_, ?_, ?_⟩, ?_⟩ <;> (first | (with_reducible assumption) | (rw [World.cell?_drew]; with_reducible assumption) | (with_reducible apply below_drew; with_reducible assumption) | (with_reducible apply Hold.drew; with_reducible assumption) | (simp <;> omega) | omega))
             rintro e wsa ⟨R1, vs1, h1, rfl, sa0, sa1, sa2, sa3, sa4, sa5, sa6, sa7, sa8, sa9, sa10, hbR1, sah⟩
             have M1 : True := trivial)
          | ((with_reducible refine' (cB _ _ _ _ ?pre).mono ?_)
             case pre => (refine ⟨⟨?_, ?_, ?_, ?_, ?_, ?_, ?_, ?_, ?_, ?_, ?_⟩, ?_⟩ <;> (first | (with_reducible assumption) | (rw [World.cell?_drew]; with_reducible assumption) | (with_reducible apply below_drew; with_reducible assumption) | (with_reducible apply Hold.drew; with_reducible assumption) | (simp <;> omega) | omega))
             rintro e wsb ⟨R2, vs2, h2, rfl, sb0, sb1, sb2, sb3, sb4, sb5, sb6, sb7, sb8, sb9, sb10, hR12, sbh⟩))
      all_goals
        go_wp2_with fail
        go_meet
        exact ⟨R1, vs1, h1, R2, vs2, h2, rfl, rfl, sbh.get (fun u => TS W [.string nm, .slice pp pn pc, .int .i64 rt, .slice bp n bc] [.string nm1, .slice pp1 pn1 pc1, .int .i64 rt1, .slice bp1 bn1 bc1] bm lm hm y u) (.tail _ (.tail _ (.head _))), sbh.get (LLb R1 h1 n vs1 (fun t => ints (predUpto S n t))) (.tail _ (.head _)), sbh.get (LLb R2 h2 n vs2 (fun t => ints (predUpto S n t))) (.head _), hbR1, hR12⟩
    case rest =>
      obtain ⟨R1, vs1, h1, R2, vs2, h2, rfl, rfl, hT, hl1, hl2, hbR, hR12⟩ := hcut
      clear HSS
      generalize wc = w6 at *
      have b0 := hT.box.get 0 _ rfl
      have b1 := hT.box.get 1 _ rfl
      have b2 := hT.box.get 2 _ rfl
      have b3 := hT.box.get 3 _ rfl
      have b4 := hT.mbox.get 0 _ rfl
      have b5 := hT.mbox.get 1 _ rfl
      have b6 := hT.mbox.get 2 _ rfl
      have b7 := hT.mbox.get 3 _ rfl
      have c1 := HC.out.2.2.2.2.2 w6 hT.past.2
      have HQ := Lib.hid (And.intro hT (And.intro hl1 hl2))
      clear hT hl1 hl2 HT
      go_wp2_with fail
      refine c1.mono ?_
      rintro e w7 ⟨R3, vs3, rfl, hp7, hR3, hl3⟩
      have HQ7 := Lib.hid (And.intro (HQ.out.1.later hp7.2) (And.intro (HQ.out.2.1.all _ hp7.2) (And.intro (HQ.out.2.2.all _ hp7.2) (LLb.new hl3))))
      have h23 : h2 ≤ R3 := Nat.le_trans HQ.out.2.2.2.2.1 hR3
      clear c1 b0 b1 b2 b3 b4 b5 b6 b7 HQ hp7 hR3 hl3
      have c1 := Lists_same R1 R3 n vs1 vs3 (fun t => ints (predUpto S n t)) w7 HQ7.out.2.1.1 HQ7.out.2.2.2.1 hbs
      go_wp2_with fail
      refine c1.mono ?_
      rintro e w8 ⟨rfl, hb8⟩
      obtain ⟨h3, eh3⟩ : ∃ h3, w7.heap.size = h3 := ⟨_, rfl⟩
      rw [eh3] at HQ7
      have HQ8 := Lib.hid (And.intro (HQ7.out.1.later hb8) (And.intro (HQ7.out.2.1.all _ hb8) (And.intro (HQ7.out.2.2.1.all _ hb8) (HQ7.out.2.2.2.all _ hb8))))
      clear c1 HQ7 hb8 eh3
      have b0 := HQ8.out.1.box.get 0 _ rfl
      have b1 := HQ8.out.1.box.get 1 _ rfl
      have b2 := HQ8.out.1.box.get 2 _ rfl
      have b3 := HQ8.out.1.box.get 3 _ rfl
      have b4 := HQ8.out.1.mbox.get 0 _ rfl
      have b5 := HQ8.out.1.mbox.get 1 _ rfl
      have b6 := HQ8.out.1.mbox.get 2 _ rfl
      have b7 := HQ8.out.1.mbox.get 3 _ rfl
      have c1 := HN.out.2.2.2.2 w8 HQ8.out.1.mine HQ8.out.1.past.2
      go_wp2_with fail
      refine c1.mono ?_
      rintro e w9 ⟨rfl, hb9⟩
      have HQ9 := Lib.hid (And.intro (HQ8.out.1.later hb9) (And.intro (HQ8.out.2.1.all _ hb9) (And.intro (HQ8.out.2.2.1.all _ hb9) (HQ8.out.2.2.2.all _ hb9))))
      clear c1 b0 b1 b2 b3 b4 b5 b6 b7 HQ8 hb9
      have b0 := HQ9.out.1.box.get 0 _ rfl
      have b1 := HQ9.out.1.box.get 1 _ rfl
      have b2 := HQ9.out.1.box.get 2 _ rfl
      have b3 := HQ9.out.1.box.get 3 _ rfl
      have b4 := HQ9.out.1.mbox.get 0 _ rfl
      have b5 := HQ9.out.1.mbox.get 1 _ rfl
      have b6 := HQ9.out.1.mbox.get 2 _ rfl
      have b7 := HQ9.out.1.mbox.get 3 _ rfl
      have c1 := HN.out.1 w9 HQ9.out.1.mine
      go_wp2_with fail
      refine c1.mono ?_
      rintro e w10 ⟨ps, cs, rfl, hp10, ho10⟩
      have HQ10 := Lib.hid (And.intro (HQ9.out.1.later hp10.2) (And.intro (HQ9.out.2.1.all _ hp10.2) (And.intro (HQ9.out.2.2.1.all _ hp10.2) (And.intro (HQ9.out.2.2.2.all _ hp10.2) ho10))))
      have hls : h3 ≤ w9.heap.size := HQ9.out.2.2.2.2.2.1
      clear c1 b0 b1 b2 b3 b4 b5 b6 b7 HQ9 hp10 ho10
      obtain ⟨ls, els⟩ : ∃ ls, w9.heap.size = ls := ⟨_, rfl⟩
      rw [els] at HQ10 hls
      clear els
      go_wp2_with fail
      go_loopw [62] (fun t wr => ∃ (i : Nat) (X : List Int), i ≤ T.length ∧ t = .int .i64 i ∧ X.length = T.length ∧ ListOwn 3 1 intC NoOwn ls w10.heap.size wr ps T.length cs X ∧ Out ls w10.heap.size w10 wr) (fun t _ => T.length - (intOf t).toNat)
      case atStart => exact ⟨0, ints T, Nat.zero_le _, rfl, ints_len T, HQ10.out.2.2.2.2, Out.refl _ _ _⟩
      case round =>
        obtain ⟨i, X, hile, rfl, hX, hoX, hO⟩ := hrel
        by_cases hlt : i < T.length
        · have hh := HQ10.out.2.2.2.2
          obtain ⟨g, rfl⟩ := ListOwn.some_row hoX (by omega)
          have hrow := hoX.2.1
          rw [← hX] at hrow
          have c1 := hrow.cellAt i (by omega)
          rw [intC_map, List.getElem?_map, List.getElem?_eq_getElem (by omega : i < X.length)] at c1
          have f1 := hrow.frozenAt i
          have hst := hrow.stored i (.int .i64 (-3))
          have hgl := hrow.lt g rfl
          have hgh := hoX.2.2.1 g rfl
          have e1 : (X.flatMap intC).set i (.int .i64 (-3)) = (X.set i (-3)).flatMap intC := by rw [intC_map, intC_map, List.map_set]
          rw [e1] at hst
          have hnew : ListOwn 3 1 intC NoOwn ls w10.heap.size (wr.setCell ⟨g, i, none⟩ (.int .i64 (-3))) (some ⟨g, 0, none⟩) T.length cs (X.set i (-3)) := by
            refine ⟨by rw [List.length_set]; exact hX.symm, by have h7 := hst.1; rw [hX] at h7; exact h7, hoX.2.2.1, spread_NoOwn (ListOwn.le hoX) _⟩
          have HZ := Lib.hid (And.intro hnew (And.intro (hO.trans (out_setCells (lo := ls) (hi := w10.heap.size) (g := g) hgl.1 hgh [.int .i64 (-3)] i wr)) (show (X.set i (-3)).length = T.length by rw [List.length_set]; exact hX)))
          obtain ⟨x, ex⟩ : ∃ x, X[i] = x := ⟨_, rfl⟩
          simp only [ex] at c1
          have c2 : wr.cell? ⟨g, i, none⟩ = some (.int .i64 x) := c1
          clear hoX hO hrow hst hnew hX ex c1 hh
          go_wp2_with fail
          exact ⟨⟨i + 1, _, by omega, by go_num, HZ.out.2.2, HZ.out.1, HZ.out.2.1⟩, by simp [intOf]; omega⟩
        · obtain rfl : i = T.length := by omega
          have hls2 := ListOwn.le hoX
          have hb12 : bm < ls := by have a1 := HQ10.out.2.1.2.1; have a2 := HQ10.out.2.2.1.2.1; have a3 := HQ10.out.2.2.2.1.2.1; omega
          have hQ11 : TS W [.string nm, .slice pp pn pc, .int .i64 rt, .slice bp n bc] [.string nm1, .slice pp1 pn1 pc1, .int .i64 rt1, .slice bp1 bn1 bc1] bm lm hm y wr ∧ LLb R1 h1 n vs1 (fun t => ints (predUpto S n t)) wr ∧ LLb R2 h2 n vs2 (fun t => ints (predUpto S n t)) wr ∧ LLb R3 h3 n vs3 (fun t => ints (predUpto S n t)) wr := by
            have a1 := HQ10.out.2.1.2.1
            have a2 := HQ10.out.2.2.1.2.1
            have a3 := HQ10.out.2.2.2.1.2.1
            exact ⟨HQ10.out.1.out hO hb12, HQ10.out.2.1.out hO (.inl (by omega)), HQ10.out.2.2.1.out hO (.inl (by omega)), HQ10.out.2.2.2.1.out hO (.inl (by omega))⟩
          have HQ11 := Lib.hid hQ11
          clear hoX hO hQ11 hX HQ10
          have c1 := Wipe_own R1 n h1 vs1 (fun t => ints (predUpto S n t)) wr HQ11.out.2.1.1 (fun i hi => by simp only [ints_len]; have := predUpto_le S n i; omega) hbs HQ11.out.2.1.2.1 HQ11.out.2.1.2.2.1 HQ11.out.2.1.2.2.2
          go_wp2_with fail
          refine c1.mono ?_
          rintro e w12 ⟨rfl, hO12⟩
          have hQ12 : TS W [.string nm, .slice pp pn pc, .int .i64 rt, .slice bp n bc] [.string nm1, .slice pp1 pn1 pc1, .int .i64 rt1, .slice bp1 bn1 bc1] bm lm hm y w12 ∧ LLb R2 h2 n vs2 (fun t => ints (predUpto S n t)) w12 ∧ LLb R3 h3 n vs3 (fun t => ints (predUpto S n t)) w12 := by
            have a2 := HQ11.out.2.2.1.2.1
            have a3 := HQ11.out.2.2.2.2.1
            exact ⟨HQ11.out.1.out hO12 hbR, HQ11.out.2.2.1.out hO12 (.inr hR12), HQ11.out.2.2.2.out hO12 (.inr (by omega))⟩
          have HQ12 := Lib.hid hQ12
          clear c1 HQ11 hO12 hQ12
          have c1 := Lists_same R2 R3 n vs2 vs3 (fun t => ints (predUpto S n t)) w12 HQ12.out.2.1.1 HQ12.out.2.2.1 hbs
          go_wp2_with fail
          refine c1.mono ?_
          rintro e w13 ⟨rfl, hb13⟩
          have hT13 := HQ12.out.1.later hb13
          have b0 := hT13.box.get 0 _ rfl
          have b1 := hT13.box.get 1 _ rfl
          have b2 := hT13.box.get 2 _ rfl
          have b3 := hT13.box.get 3 _ rfl
          have b4 := hT13.mbox.get 0 _ rfl
          have b5 := hT13.mbox.get 1 _ rfl
          have b6 := hT13.mbox.get 2 _ rfl
          have b7 := hT13.mbox.get 3 _ rfl
          have c2 := HN.out.2.2.2.2 w13 hT13.mine hT13.past.2
          have HT13 := Lib.hid hT13
          clear c1 hT13 hb13
          go_wp2_with fail
          refine c2.mono ?_
          rintro e w14 ⟨rfl, hb14⟩
          have HE := Lib.hid (HT13.out.past.2.trans (hb14.mono HT13.out.past.size))
          clear c2 b0 b1 b2 b3 b4 b5 b6 b7 hb14
          go_wp2_with fail
          go_ret
          exact ⟨rfl, HE.out⟩
end Go.Proofs.Ytejnhdhfmklajaa
