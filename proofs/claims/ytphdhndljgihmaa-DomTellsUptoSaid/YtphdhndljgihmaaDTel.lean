/- The law DomTells: its walk. -/
import Derived.Test.YtphdhndljgihmaaDTree
import Derived.Test.YtphdhndljgihmaaFront
import Derived.Test.YtphdhndljgihmaaRFront
import Derived.Test.YtphdhndljgihmaaRTree
import Derived.Test.YtphdhndljgihmaaDLive
import Derived.Test.YtphdhndljgihmaaVWip
import Derived.BigQuiet
namespace Go.Proofs.Ytphdhndljgihmaa
open Go.RowKit Go.Maps
set_option linter.unusedVariables false
set_option linter.unusedSimpArgs false

/-- What stands of the argument and its copy. -/
structure TS (W : World) (cs ms : List Value) (bm lm hm : Nat) (y : LFn) (w : World) : Prop where
  past : Past W.heap.size W w
  box : Box W.heap.size cs w
  mbox : Box bm ms w
  own : FnOwn lm hm w y
  hi : hm ≤ w.heap.size
  lo : W.heap.size < lm
  mid : hm ≤ bm
theorem TS.later {W w w' : World} {cs ms : List Value} {bm lm hm : Nat} {y : LFn} (h : TS W cs ms bm lm hm y w) (hb : Below w.heap.size w w') : TS W cs ms bm lm hm y w' :=
  ⟨h.past.trans ⟨h.past.size, hb.mono h.past.size⟩, h.box.later hb, h.mbox.later hb, h.own.stays (below_stay hb h.hi), Nat.le_trans h.hi hb.size, h.lo, h.mid⟩
theorem TS.all {W w : World} {cs ms : List Value} {bm lm hm : Nat} {y : LFn} (h : TS W cs ms bm lm hm y w) : ∀ u, Below w.heap.size w u → TS W cs ms bm lm hm y u := fun u hu => h.later hu
theorem fnown_le {a b : Nat} {w : World} {y : LFn} (h : FnOwn a b w y) : a ≤ b := by
  obtain ⟨d, h1, h2⟩ := h
  exact Nat.le_trans h1.le h2.le
theorem TS.out {W w w' : World} {cs ms : List Value} {bm lm hm lo hi : Nat} {y : LFn} (h : TS W cs ms bm lm hm y w) (ho : Out lo hi w w') (hl : bm < lo) : TS W cs ms bm lm hm y w' := by
  have h1 := h.lo
  have h2 := h.mid
  have h3 := h.hi
  have h4 := fnown_le h.own
  exact ⟨⟨h.past.1, h.past.2.trans (ho.below (by omega) h.past.size)⟩, Out.box h.box ho (.inl (by omega)), Out.box h.mbox ho (.inl hl), h.own.stays (ho.stay h3 (.inl (by omega))), Nat.le_trans h3 ho.size, h1, h2⟩
theorem TS.mine {W w : World} {cs ms : List Value} {bm lm hm : Nat} {y : LFn} (h : TS W cs ms bm lm hm y w) : FnIn w.heap.size w y := FnOwn.lies h.hi h.own
/-- A list of lists in blocks ahead of h. -/
def LLb (R h n : Nat) (vs : Nat → Value) (M : Nat → List Int) (w : World) : Prop := LL R n vs M w ∧ R < h ∧ h ≤ w.heap.size ∧ ∀ i, i < n → ∀ g, (vs i).ownBlock = some g → g < h
theorem LLb.all {R h n : Nat} {vs : Nat → Value} {M : Nat → List Int} {w : World} (k : LLb R h n vs M w) : ∀ u, Below w.heap.size w u → LLb R h n vs M u := fun u hu => ⟨k.1.later hu, k.2.1, Nat.le_trans k.2.2.1 hu.size, k.2.2.2⟩
theorem LLb.new {R n : Nat} {vs : Nat → Value} {M : Nat → List Int} {w : World} (k : LL R n vs M w) : LLb R w.heap.size n vs M w := ⟨k, k.row.lt, Nat.le_refl _, fun i hi g e => ((k.own i hi).lt g e).2⟩
theorem LLb.out {R h n lo hi : Nat} {vs : Nat → Value} {M : Nat → List Int} {w w' : World} (k : LLb R h n vs M w) (ho : Out lo hi w w') (hl : h ≤ lo ∨ hi ≤ R) : LLb R h n vs M w' := by
  obtain ⟨k1, k2, k3, k4⟩ := k
  have hs : Stay R h w w' := ho.stay k3 hl
  refine ⟨⟨k1.row.of_block (hs R (Nat.le_refl _) k2), fun i hi' => ownsRow_stay (k1.own i hi') (fun g e => k4 i hi' g e) (hs.mono (Nat.le_succ _) (Nat.le_refl _)), k1.ap⟩, k2, Nat.le_trans k3 ho.size, k4⟩
theorem fnsm_same {x y : LFn} (e : fnD y = fnD x) (h : FnSm x) : FnSm y := by
  intro c hc
  have h1 : blkD c ∈ (fnD y).bs := List.mem_map_of_mem hc
  rw [e] at h1
  obtain ⟨c', hc', e'⟩ := List.mem_map.1 h1
  rw [← e']
  exact h c' hc'
theorem FnOwn.le {a b : Nat} {w : World} {y : LFn} (h : FnOwn a b w y) : a ≤ b := by
  obtain ⟨d, h1, h2⟩ := h
  exact Nat.le_trans h1.le h2.le

/-- A list of lists that was answered. -/
structure Row where
  R : Nat
  h : Nat
  vs : Nat → Value
  M : Nat → List Int
/-- What stands: the argument, its copy, and the lists that were answered. -/
def Keep (W : World) (cs ms : List Value) (bm lm hm : Nat) (y : LFn) (n : Nat) (l : List Row) (w : World) : Prop := TS W cs ms bm lm hm y w ∧ ∀ x ∈ l, LLb x.R x.h n x.vs x.M w
theorem Keep.later {W w w' : World} {cs ms : List Value} {bm lm hm n : Nat} {y : LFn} {l : List Row} (k : Keep W cs ms bm lm hm y n l w) (hb : Below w.heap.size w w') : Keep W cs ms bm lm hm y n l w' :=
  ⟨k.1.later hb, fun x hx => (k.2 x hx).all _ hb⟩
theorem Keep.all {W w : World} {cs ms : List Value} {bm lm hm n : Nat} {y : LFn} {l : List Row} (k : Keep W cs ms bm lm hm y n l w) : ∀ u, Below w.heap.size w u → Keep W cs ms bm lm hm y n l u := fun u hu => k.later hu
theorem Keep.snoc {W w : World} {cs ms : List Value} {bm lm hm n : Nat} {y : LFn} {l : List Row} (k : Keep W cs ms bm lm hm y n l w) {x : Row} (hx : LLb x.R x.h n x.vs x.M w) : Keep W cs ms bm lm hm y n (l ++ [x]) w :=
  ⟨k.1, fun z hz => by
    rcases List.mem_append.1 hz with h | h
    · exact k.2 z h
    · rw [List.mem_singleton] at h
      subst h
      exact hx⟩
def UpQ (S : Nat → List Nat) (n R : Nat) (w : World) : Prop := w.rowIs R 3 n (fun b => .int .i64 (upI S b))
theorem UpQ.all {S : Nat → List Nat} {n R : Nat} {w : World} (h : w.rowIs R 3 n (fun b => .int .i64 (upI S b))) : ∀ u, Below w.heap.size w u → UpQ S n R u := fun u hu => rowIs_kept h (below_grown hu) (by simp)
/-- Two answers more, the one behind the other. -/
def Two (W : World) (cs ms : List Value) (bm lm hm : Nat) (y : LFn) (n lo : Nat) (l : List Row) (M M' : Nat → List Int) (s s' : Value) (w : World) : Prop :=
  ∃ R vs h R' vs' h', s = .slice (some ⟨R, 0, none⟩) n n ∧ s' = .slice (some ⟨R', 0, none⟩) n n ∧ lo ≤ R ∧ R < h ∧ h ≤ R' ∧ R' < h' ∧ Keep W cs ms bm lm hm y n ((l ++ [⟨R, h, vs, M⟩]) ++ [⟨R', h', vs', M'⟩]) w
set_option maxRecDepth 100000 in
set_option maxHeartbeats 16000000 in
theorem domTells_walk (W : World) (f : LFn) (hf : FnIn W.heap.size W f) (hs : FnSm f) (hbs : f.bs.length ≤ 1048576) (hw : FnTw f) (hz : fnZ (fnD f) ≤ 1048576) :
    Calls Try.prog 3 #[.agg (fnC f).toArray] W fun e w' => e = .returned (.bool true) ∧ Below W.heap.size W w' := by
  have cl := lives_any
  have hP := (Past.refl (Nat.le_refl W.heap.size)).alloc (.cells (fnC f).toArray 25)
  have A1 : Box W.heap.size (fnC f) (W.alloc (.cells (fnC f).toArray 25)) := Box.new W rfl _ _
  have cF : ∀ w, Below W.heap.size W w → FnIn w.heap.size w f := fun w h => past_lasts lasts_Fn hf ⟨Nat.le_refl _, h⟩
  have cLo : ∀ w, Below W.heap.size W w → Calls Try.prog 11 #[.agg (fnC f).toArray] w (SomeBool w) := fun w h => long_any f w (cF w h) hbs
  have cCo : ∀ w, Below W.heap.size W w → Calls Try.prog 12 #[.agg (fnC f).toArray] w fun e w' => ∃ y, e = .returned (.agg (fnC y).toArray) ∧ fnD y = fnD f ∧ Past w.heap.size w w' ∧ FnOwn w.heap.size w'.heap.size w' y := fun w h => rCopyFunc_own f w (cF w h) hz
  have cTr : ∀ w, Below W.heap.size W w → Calls Try.prog 15 #[.agg (fnC f).toArray] w (OwnLL f.bs.length (fun t => ints (kids (succP (fnD f).bs) f.bs.length t)) w) := fun w h => rTree_own f w (cF w h) hs hbs
  have cFr : ∀ w, Below W.heap.size W w → Calls Try.prog 16 #[.agg (fnC f).toArray] w (OwnLL f.bs.length (fun t => ints (frUpto (succP (fnD f).bs) f.bs.length t)) w) := fun w h => rFrontier_own f w (cF w h) hs hbs
  have cId : ∀ w, Below W.heap.size W w → Calls Try.prog 19 #[.agg (fnC f).toArray] w (OwnUp (succP (fnD f).bs) f.bs.length w) := fun w h => rIdom_own f w (cF w h) hs hbs
  have hlen : ∀ y : LFn, fnD y = fnD f → y.bs.length = f.bs.length := fun y e => by
    have h1 : (fnD y).bs.length = (fnD f).bs.length := by rw [e]
    simpa [fnD] using h1
  have hsm : ∀ y : LFn, fnD y = fnD f → FnSm y := fun y e => fnsm_same e hs
  have mTr : ∀ (y : LFn), fnD y = fnD f → ∀ w, FnIn w.heap.size w y → Calls Try.prog 13 #[.agg (fnC y).toArray] w (OwnLL f.bs.length (fun t => ints (kids (succP (fnD f).bs) f.bs.length t)) w) := fun y e w h => by
    have := Tree_own y w h (hsm y e) (by rw [hlen y e]; exact hbs)
    rw [e, hlen y e] at this; exact this
  have mFr : ∀ (y : LFn), fnD y = fnD f → ∀ w, FnIn w.heap.size w y → Calls Try.prog 14 #[.agg (fnC y).toArray] w (OwnLL f.bs.length (fun t => ints (frUpto (succP (fnD f).bs) f.bs.length t)) w) := fun y e w h => by
    have := Frontier_own y w h (hsm y e) (by rw [hlen y e]; exact hbs)
    rw [e, hlen y e] at this; exact this
  have mId : ∀ (y : LFn), fnD y = fnD f → ∀ w, FnIn w.heap.size w y → Calls Try.prog 18 #[.agg (fnC y).toArray] w (OwnUp (succP (fnD f).bs) f.bs.length w) := fun y e w h => by
    have := Idom_own y w h (hsm y e) (by rw [hlen y e]; exact hbs)
    rw [e, hlen y e] at this; exact this
  have mFu : ∀ (y : LFn), fnD y = fnD f → ∀ w, FnIn w.heap.size w y → Below W.heap.size W w → Calls Try.prog 21 #[.agg (fnC y).toArray, .agg (fnC f).toArray] w (fun e w' => e = .returned (.bool true) ∧ Below w.heap.size w w') := fun y e w h hb => by
    refine (Funcs_any w y f h (cF w hb)).mono ?_
    rintro e2 w' ⟨bo, he, hi, hb'⟩
    obtain rfl : bo = true := hi.2 e
    exact ⟨he, hb'⟩
  have HKL : Hid (∀ i, (kids (succP (fnD f).bs) f.bs.length i).length ≤ f.bs.length ∧ (frUpto (succP (fnD f).bs) f.bs.length i).length ≤ f.bs.length) := Lib.hid (fun i => ⟨kids_len _ _ _, frUpto_len _ _ _⟩)
  obtain ⟨S, eS⟩ : ∃ S, succP (fnD f).bs = S := ⟨_, rfl⟩
  simp only [eS] at cTr cFr cId mTr mFr mId HKL
  obtain ⟨D, eD⟩ : ∃ D, fnD f = D := ⟨_, rfl⟩
  simp only [eD] at cCo mTr mFr mId mFu
  obtain ⟨nm, pp, pn, pc, ps, rt, bp, bn, bc, bs⟩ := f
  obtain rfl : bn = bs.length := hf.2.1
  show Calls Try.prog 3 #[.agg #[.string nm, .slice pp pn pc, .int .i64 rt, .slice bp bs.length bc]] W _
  have hfc : fnC ⟨nm, pp, pn, pc, ps, rt, bp, bs.length, bc, bs⟩ = [.string nm, .slice pp pn pc, .int .i64 rt, .slice bp bs.length bc] := rfl
  rw [hfc] at A1 hP
  simp only [hfc] at cLo cCo cTr cFr cId mFu
  obtain ⟨n, en⟩ : ∃ n, bs.length = n := ⟨_, rfl⟩
  simp only [en] at cLo cCo cTr cFr cId mTr mFr mId mFu A1 hP hbs HKL ⊢
  have HC := Lib.hid (And.intro cLo (And.intro cCo (And.intro cTr (And.intro cFr cId))))
  have HM := Lib.hid (And.intro mTr (And.intro mFr (And.intro mId mFu)))
  have HB := Lib.hid (And.intro hP A1)
  clear cLo cCo cTr cFr cId mTr mFr mId mFu hP A1 cF hfc hf hs eS en hlen hsm hw hz eD
  go_enter Try.func3, Try.ntmps3
  go_wp2_with fail
  refine (cl _).mono ?_
  rintro e w1 ⟨rfl, hb1⟩
  have H1 := Lib.hid (And.intro (HB.out.1.trans ⟨HB.out.1.size, hb1.mono HB.out.1.size⟩) (HB.out.2.later hb1))
  clear hb1 cl HB
  have b0 := H1.out.2.get 0 _ rfl
  have b1 := H1.out.2.get 1 _ rfl
  have b2 := H1.out.2.get 2 _ rfl
  have b3 := H1.out.2.get 3 _ rfl
  have c1 := HC.out.1 w1 H1.out.1.2
  go_wp2_with fail
  refine c1.mono ?_
  rintro e w2 ⟨bl, rfl, hb2⟩
  have H2 := Lib.hid (And.intro (H1.out.1.trans ⟨H1.out.1.size, hb2.mono H1.out.1.size⟩) (H1.out.2.later hb2))
  clear hb2 c1 H1 b0 b1 b2 b3
  cases bl
  case true =>
    go_wp2
    go_ret
    exact ⟨rfl, H2.out.1.2⟩
  have b0 := H2.out.2.get 0 _ rfl
  have b1 := H2.out.2.get 1 _ rfl
  have b2 := H2.out.2.get 2 _ rfl
  have b3 := H2.out.2.get 3 _ rfl
  have c1 := HC.out.2.1 w2 H2.out.1.2
  go_wp2_with fail
  refine c1.mono ?_
  rintro e w3 ⟨y, he, hdy, hp3, hoy⟩
  obtain ⟨nm1, pp1, pn1, pc1, ps1, rt1, bp1, bn1, bc1, bs1⟩ := y
  obtain rfl : e = .returned (.agg #[.string nm1, .slice pp1 pn1 pc1, .int .i64 rt1, .slice bp1 bn1 bc1]) := he
  obtain ⟨y, ey⟩ : ∃ y : LFn, y = ⟨nm1, pp1, pn1, pc1, ps1, rt1, bp1, bn1, bc1, bs1⟩ := ⟨_, rfl⟩
  rw [← ey] at hdy hoy
  have hyc : fnC y = [.string nm1, .slice pp1 pn1 pc1, .int .i64 rt1, .slice bp1 bn1 bc1] := by rw [ey]; rfl
  have mTr := HM.out.1 y hdy
  have mFr := HM.out.2.1 y hdy
  have mId := HM.out.2.2.1 y hdy
  have mFu := HM.out.2.2.2 y hdy
  simp only [hyc] at mTr mFr mId mFu
  have HN := Lib.hid (And.intro mTr (And.intro mFr (And.intro mId mFu)))
  have T4 : TS W [.string nm, .slice pp pn pc, .int .i64 rt, .slice bp n bc] [.string nm1, .slice pp1 pn1 pc1, .int .i64 rt1, .slice bp1 bn1 bc1] w3.heap.size w2.heap.size w3.heap.size y (w3.alloc (.cells #[.string nm1, .slice pp1 pn1 pc1, .int .i64 rt1, .slice bp1 bn1 bc1] 25)) := by
    have hp : Past W.heap.size W w3 := H2.out.1.trans ⟨H2.out.1.size, hp3.2.mono H2.out.1.size⟩
    exact ⟨hp.alloc _, (H2.out.2.later hp3.2).alloc _, Box.new w3 rfl _ _, hoy.stays (below_stay ((Below.refl w3.heap.size w3).alloc (Nat.le_refl _) _) (Nat.le_refl _)), by simp, H2.out.2.1, Nat.le_refl _⟩
  have HT4 := Lib.hid T4
  clear c1 b0 b1 b2 b3 mTr mFr mId mFu hyc ey hdy hoy hp3 T4 H2 HM
  go_upto_region 6 with fail
  obtain ⟨w4, ew4⟩ : ∃ w4, (w3.alloc (.cells #[.string nm1, .slice pp1 pn1 pc1, .int .i64 rt1, .slice bp1 bn1 bc1] 25)) = w4 := ⟨_, rfl⟩
  simp only [ew4] at HT4 ⊢
  clear ew4
  obtain ⟨bm, ebm⟩ : ∃ bm, w3.heap.size = bm := ⟨_, rfl⟩
  simp only [ebm] at HT4 ⊢
  obtain ⟨hm, ehm⟩ : ∃ hm, hm = bm := ⟨_, rfl⟩
  have HT5 : Hid (TS W [.string nm, .slice pp pn pc, .int .i64 rt, .slice bp n bc] [.string nm1, .slice pp1 pn1 pc1, .int .i64 rt1, .slice bp1 bn1 bc1] bm w2.heap.size hm y w4) := Lib.hid (by rw [ehm]; exact HT4.out)
  clear HT4 ehm ebm
  obtain ⟨lm, elm⟩ : ∃ lm, w2.heap.size = lm := ⟨_, rfl⟩
  rw [elm] at HT5
  clear elm
  have HS : ∀ w w' : World, (w.cell? ⟨W.heap.size, 0, none⟩ = some (.string nm) ∧ w.cell? ⟨W.heap.size, 1, none⟩ = some (.slice pp pn pc) ∧ w.cell? ⟨W.heap.size, 2, none⟩ = some (.int .i64 rt) ∧ w.cell? ⟨W.heap.size, 3, none⟩ = some (.slice bp n bc) ∧ w.cell? ⟨bm, 0, none⟩ = some (.string nm1) ∧ w.cell? ⟨bm, 1, none⟩ = some (.slice pp1 pn1 pc1) ∧ w.cell? ⟨bm, 2, none⟩ = some (.int .i64 rt1) ∧ w.cell? ⟨bm, 3, none⟩ = some (.slice bp1 bn1 bc1) ∧ W.heap.size < w.heap.size ∧ bm < w.heap.size ∧ Below W.heap.size W w) → Below w.heap.size w w' → (w'.cell? ⟨W.heap.size, 0, none⟩ = some (.string nm) ∧ w'.cell? ⟨W.heap.size, 1, none⟩ = some (.slice pp pn pc) ∧ w'.cell? ⟨W.heap.size, 2, none⟩ = some (.int .i64 rt) ∧ w'.cell? ⟨W.heap.size, 3, none⟩ = some (.slice bp n bc) ∧ w'.cell? ⟨bm, 0, none⟩ = some (.string nm1) ∧ w'.cell? ⟨bm, 1, none⟩ = some (.slice pp1 pn1 pc1) ∧ w'.cell? ⟨bm, 2, none⟩ = some (.int .i64 rt1) ∧ w'.cell? ⟨bm, 3, none⟩ = some (.slice bp1 bn1 bc1) ∧ W.heap.size < w'.heap.size ∧ bm < w'.heap.size ∧ Below W.heap.size W w') := by
    rintro w w' ⟨q0, q1, q2, q3, q4, q5, q6, q7, q8, q9, q10⟩ hb
    exact ⟨(hb.cell (p := ⟨W.heap.size, 0, none⟩) q8).trans q0, (hb.cell (p := ⟨W.heap.size, 1, none⟩) q8).trans q1, (hb.cell (p := ⟨W.heap.size, 2, none⟩) q8).trans q2, (hb.cell (p := ⟨W.heap.size, 3, none⟩) q8).trans q3, (hb.cell (p := ⟨bm, 0, none⟩) q9).trans q4, (hb.cell (p := ⟨bm, 1, none⟩) q9).trans q5, (hb.cell (p := ⟨bm, 2, none⟩) q9).trans q6, (hb.cell (p := ⟨bm, 3, none⟩) q9).trans q7, Nat.lt_of_lt_of_le q8 hb.size, Nat.lt_of_lt_of_le q9 hb.size, q10.trans (hb.mono (Nat.le_of_lt q8))⟩
  have hS4 : ∀ w l, Keep W [.string nm, .slice pp pn pc, .int .i64 rt, .slice bp n bc] [.string nm1, .slice pp1 pn1 pc1, .int .i64 rt1, .slice bp1 bn1 bc1] bm lm hm y n l w → w.cell? ⟨W.heap.size, 0, none⟩ = some (.string nm) ∧ w.cell? ⟨W.heap.size, 1, none⟩ = some (.slice pp pn pc) ∧ w.cell? ⟨W.heap.size, 2, none⟩ = some (.int .i64 rt) ∧ w.cell? ⟨W.heap.size, 3, none⟩ = some (.slice bp n bc) ∧ w.cell? ⟨bm, 0, none⟩ = some (.string nm1) ∧ w.cell? ⟨bm, 1, none⟩ = some (.slice pp1 pn1 pc1) ∧ w.cell? ⟨bm, 2, none⟩ = some (.int .i64 rt1) ∧ w.cell? ⟨bm, 3, none⟩ = some (.slice bp1 bn1 bc1) ∧ W.heap.size < w.heap.size ∧ bm < w.heap.size ∧ Below W.heap.size W w := fun w l h => ⟨h.1.box.get 0 _ rfl, h.1.box.get 1 _ rfl, h.1.box.get 2 _ rfl, h.1.box.get 3 _ rfl, h.1.mbox.get 0 _ rfl, h.1.mbox.get 1 _ rfl, h.1.mbox.get 2 _ rfl, h.1.mbox.get 3 _ rfl, h.1.box.1, h.1.mbox.1, h.1.past.2⟩
  have HSS := Lib.hid HS
  have HS4 := Lib.hid hS4
  have HK0 : Hid (Keep W [.string nm, .slice pp pn pc, .int .i64 rt, .slice bp n bc] [.string nm1, .slice pp1 pn1 pc1, .int .i64 rt1, .slice bp1 bn1 bc1] bm lm hm y n [] w4) := Lib.hid ⟨HT5.out, fun x hx => by simp at hx⟩
  clear HS hS4 HT5
  go_cut [4, 5] (fun s s' wx => Two W [.string nm, .slice pp pn pc, .int .i64 rt, .slice bp n bc] [.string nm1, .slice pp1 pn1 pc1, .int .i64 rt1, .slice bp1 bn1 bc1] bm lm hm y n (bm + 1) [] (fun t => ints (kids S n t)) (fun t => ints (kids S n t)) s s' wx)
  case first =>
      obtain ⟨k0, k1, k2, k3, k4, k5, k6, k7, k8, k9, k10⟩ := HS4.out w4 _ HK0.out
      have kh : Hold [(fun u => Keep W [.string nm, .slice pp pn pc, .int .i64 rt, .slice bp n bc] [.string nm1, .slice pp1 pn1 pc1, .int .i64 rt1, .slice bp1 bn1 bc1] bm lm hm y n [] u)] w4 := Hold.one HK0.out.all
      have cA : ∀ l w, ((w.cell? ⟨W.heap.size, 0, none⟩ = some (.string nm) ∧ w.cell? ⟨W.heap.size, 1, none⟩ = some (.slice pp pn pc) ∧ w.cell? ⟨W.heap.size, 2, none⟩ = some (.int .i64 rt) ∧ w.cell? ⟨W.heap.size, 3, none⟩ = some (.slice bp n bc) ∧ w.cell? ⟨bm, 0, none⟩ = some (.string nm1) ∧ w.cell? ⟨bm, 1, none⟩ = some (.slice pp1 pn1 pc1) ∧ w.cell? ⟨bm, 2, none⟩ = some (.int .i64 rt1) ∧ w.cell? ⟨bm, 3, none⟩ = some (.slice bp1 bn1 bc1) ∧ W.heap.size < w.heap.size ∧ bm < w.heap.size ∧ Below W.heap.size W w) ∧ Hold [(fun u => Keep W [.string nm, .slice pp pn pc, .int .i64 rt, .slice bp n bc] [.string nm1, .slice pp1 pn1 pc1, .int .i64 rt1, .slice bp1 bn1 bc1] bm lm hm y n l u)] w) → Calls Try.prog 13 #[.agg #[.string nm1, .slice pp1 pn1 pc1, .int .i64 rt1, .slice bp1 bn1 bc1]] w fun e w' => ∃ R vs h, e = .returned (.slice (some ⟨R, 0, none⟩) n n) ∧ w'.cell? ⟨W.heap.size, 0, none⟩ = some (.string nm) ∧ w'.cell? ⟨W.heap.size, 1, none⟩ = some (.slice pp pn pc) ∧ w'.cell? ⟨W.heap.size, 2, none⟩ = some (.int .i64 rt) ∧ w'.cell? ⟨W.heap.size, 3, none⟩ = some (.slice bp n bc) ∧ w'.cell? ⟨bm, 0, none⟩ = some (.string nm1) ∧ w'.cell? ⟨bm, 1, none⟩ = some (.slice pp1 pn1 pc1) ∧ w'.cell? ⟨bm, 2, none⟩ = some (.int .i64 rt1) ∧ w'.cell? ⟨bm, 3, none⟩ = some (.slice bp1 bn1 bc1) ∧ W.heap.size < w'.heap.size ∧ bm < w'.heap.size ∧ Below W.heap.size W w' ∧ (bm < R ∧ R < h ∧ (∀ x ∈ l, x.h ≤ R)) ∧ Hold [(fun u => Keep W [.string nm, .slice pp pn pc, .int .i64 rt, .slice bp n bc] [.string nm1, .slice pp1 pn1 pc1, .int .i64 rt1, .slice bp1 bn1 bc1] bm lm hm y n (l ++ [⟨R, h, vs, (fun t => ints (kids S n t))⟩]) u)] w' := by
        rintro l w ⟨k, kh⟩
        have hk := kh.get (fun u => Keep W [.string nm, .slice pp pn pc, .int .i64 rt, .slice bp n bc] [.string nm1, .slice pp1 pn1 pc1, .int .i64 rt1, .slice bp1 bn1 bc1] bm lm hm y n l u) (.head _)
        refine (HN.out.1 w hk.1.mine).mono ?_
        rintro e w' ⟨R, vs, he, hp, hR, hl⟩
        obtain ⟨q0, q1, q2, q3, q4, q5, q6, q7, q8, q9, q10⟩ := HSS.out w w' k hp.2
        exact ⟨R, vs, w'.heap.size, he, q0, q1, q2, q3, q4, q5, q6, q7, q8, q9, q10, ⟨Nat.lt_of_lt_of_le k.2.2.2.2.2.2.2.2.2.1 hR, hl.row.lt, fun x hx => Nat.le_trans (hk.2 x hx).2.2.1 hR⟩, Hold.one ((hk.later hp.2).snoc (x := ⟨R, w'.heap.size, vs, (fun t => ints (kids S n t))⟩) (LLb.new hl)).all⟩
      go_region_held3 (fun w' => w'.cell? ⟨W.heap.size, 0, none⟩ = some (.string nm) ∧ w'.cell? ⟨W.heap.size, 1, none⟩ = some (.slice pp pn pc) ∧ w'.cell? ⟨W.heap.size, 2, none⟩ = some (.int .i64 rt) ∧ w'.cell? ⟨W.heap.size, 3, none⟩ = some (.slice bp n bc) ∧ w'.cell? ⟨bm, 0, none⟩ = some (.string nm1) ∧ w'.cell? ⟨bm, 1, none⟩ = some (.slice pp1 pn1 pc1) ∧ w'.cell? ⟨bm, 2, none⟩ = some (.int .i64 rt1) ∧ w'.cell? ⟨bm, 3, none⟩ = some (.slice bp1 bn1 bc1) ∧ W.heap.size < w'.heap.size ∧ bm < w'.heap.size ∧ Below W.heap.size W w')
        (((try dsimp only); (repeat' apply And.intro) <;> (first | (with_reducible assumption) | (rw [World.cell?_drew]; with_reducible assumption) | (with_reducible apply below_drew; with_reducible assumption) | (simp <;> omega))))
        (first
          | ((fail_if_success (have := M1))
             (with_reducible refine' (cA _ _ ?pre).mono ?_)
             case pre => (refine ⟨⟨?_, ?_, ?_, ?_, ?_, ?_, ?_, ?_, ?_, ?_, ?_⟩, ?_⟩ <;> (first | (with_reducible assumption) | (rw [World.cell?_drew]; with_reducible assumption) | (with_reducible apply below_drew; with_reducible assumption) | (with_reducible apply Hold.drew; with_reducible assumption) | (simp <;> omega) | omega))
             rintro e wsa ⟨R, vs, h, rfl, sa0, sa1, sa2, sa3, sa4, sa5, sa6, sa7, sa8, sa9, sa10, hz1, sah⟩
             have M1 : True := trivial)
          | ((with_reducible refine' (cA _ _ ?pre).mono ?_)
             case pre => (refine ⟨⟨?_, ?_, ?_, ?_, ?_, ?_, ?_, ?_, ?_, ?_, ?_⟩, ?_⟩ <;> (first | (with_reducible assumption) | (rw [World.cell?_drew]; with_reducible assumption) | (with_reducible apply below_drew; with_reducible assumption) | (with_reducible apply Hold.drew; with_reducible assumption) | (simp <;> omega) | omega))
             rintro e wsb ⟨R', vs', h', rfl, sb0, sb1, sb2, sb3, sb4, sb5, sb6, sb7, sb8, sb9, sb10, hz2, sbh⟩))
      all_goals
        go_wp2_with fail
        go_meet
        exact ⟨R, vs, h, R', vs', h', rfl, rfl, hz1.1, hz1.2.1, hz2.2.2 ⟨R, h, vs, (fun t => ints (kids S n t))⟩ (by simp), hz2.2.1, sbh.get _ (.head _)⟩
  case rest =>
  obtain ⟨R1, vs1, h1, R2, vs2, h2, rfl, rfl, hlo1, hlt1, hlo2, hlt2, hK1⟩ := hcut
  generalize wc = w5 at *
  have HK1 := Lib.hid hK1
  clear hK1
  go_upto_region 7 with fail
  go_cut [6, 7] (fun s s' wx => Two W [.string nm, .slice pp pn pc, .int .i64 rt, .slice bp n bc] [.string nm1, .slice pp1 pn1 pc1, .int .i64 rt1, .slice bp1 bn1 bc1] bm lm hm y n h2 (([] ++ [(Row.mk R1 h1 vs1 (fun t => ints (kids S n t)))]) ++ [(Row.mk R2 h2 vs2 (fun t => ints (kids S n t)))]) (fun t => ints (frUpto S n t)) (fun t => ints (frUpto S n t)) s s' wx)
  case first =>
      obtain ⟨k0, k1, k2, k3, k4, k5, k6, k7, k8, k9, k10⟩ := HS4.out w5 _ HK1.out
      have kh : Hold [(fun u => Keep W [.string nm, .slice pp pn pc, .int .i64 rt, .slice bp n bc] [.string nm1, .slice pp1 pn1 pc1, .int .i64 rt1, .slice bp1 bn1 bc1] bm lm hm y n (([] ++ [(Row.mk R1 h1 vs1 (fun t => ints (kids S n t)))]) ++ [(Row.mk R2 h2 vs2 (fun t => ints (kids S n t)))]) u)] w5 := Hold.one HK1.out.all
      have cA : ∀ l w, ((w.cell? ⟨W.heap.size, 0, none⟩ = some (.string nm) ∧ w.cell? ⟨W.heap.size, 1, none⟩ = some (.slice pp pn pc) ∧ w.cell? ⟨W.heap.size, 2, none⟩ = some (.int .i64 rt) ∧ w.cell? ⟨W.heap.size, 3, none⟩ = some (.slice bp n bc) ∧ w.cell? ⟨bm, 0, none⟩ = some (.string nm1) ∧ w.cell? ⟨bm, 1, none⟩ = some (.slice pp1 pn1 pc1) ∧ w.cell? ⟨bm, 2, none⟩ = some (.int .i64 rt1) ∧ w.cell? ⟨bm, 3, none⟩ = some (.slice bp1 bn1 bc1) ∧ W.heap.size < w.heap.size ∧ bm < w.heap.size ∧ Below W.heap.size W w) ∧ Hold [(fun u => Keep W [.string nm, .slice pp pn pc, .int .i64 rt, .slice bp n bc] [.string nm1, .slice pp1 pn1 pc1, .int .i64 rt1, .slice bp1 bn1 bc1] bm lm hm y n l u)] w) → Calls Try.prog 14 #[.agg #[.string nm1, .slice pp1 pn1 pc1, .int .i64 rt1, .slice bp1 bn1 bc1]] w fun e w' => ∃ R vs h, e = .returned (.slice (some ⟨R, 0, none⟩) n n) ∧ w'.cell? ⟨W.heap.size, 0, none⟩ = some (.string nm) ∧ w'.cell? ⟨W.heap.size, 1, none⟩ = some (.slice pp pn pc) ∧ w'.cell? ⟨W.heap.size, 2, none⟩ = some (.int .i64 rt) ∧ w'.cell? ⟨W.heap.size, 3, none⟩ = some (.slice bp n bc) ∧ w'.cell? ⟨bm, 0, none⟩ = some (.string nm1) ∧ w'.cell? ⟨bm, 1, none⟩ = some (.slice pp1 pn1 pc1) ∧ w'.cell? ⟨bm, 2, none⟩ = some (.int .i64 rt1) ∧ w'.cell? ⟨bm, 3, none⟩ = some (.slice bp1 bn1 bc1) ∧ W.heap.size < w'.heap.size ∧ bm < w'.heap.size ∧ Below W.heap.size W w' ∧ (bm < R ∧ R < h ∧ (∀ x ∈ l, x.h ≤ R)) ∧ Hold [(fun u => Keep W [.string nm, .slice pp pn pc, .int .i64 rt, .slice bp n bc] [.string nm1, .slice pp1 pn1 pc1, .int .i64 rt1, .slice bp1 bn1 bc1] bm lm hm y n (l ++ [⟨R, h, vs, (fun t => ints (frUpto S n t))⟩]) u)] w' := by
        rintro l w ⟨k, kh⟩
        have hk := kh.get (fun u => Keep W [.string nm, .slice pp pn pc, .int .i64 rt, .slice bp n bc] [.string nm1, .slice pp1 pn1 pc1, .int .i64 rt1, .slice bp1 bn1 bc1] bm lm hm y n l u) (.head _)
        refine (HN.out.2.1 w hk.1.mine).mono ?_
        rintro e w' ⟨R, vs, he, hp, hR, hl⟩
        obtain ⟨q0, q1, q2, q3, q4, q5, q6, q7, q8, q9, q10⟩ := HSS.out w w' k hp.2
        exact ⟨R, vs, w'.heap.size, he, q0, q1, q2, q3, q4, q5, q6, q7, q8, q9, q10, ⟨Nat.lt_of_lt_of_le k.2.2.2.2.2.2.2.2.2.1 hR, hl.row.lt, fun x hx => Nat.le_trans (hk.2 x hx).2.2.1 hR⟩, Hold.one ((hk.later hp.2).snoc (x := ⟨R, w'.heap.size, vs, (fun t => ints (frUpto S n t))⟩) (LLb.new hl)).all⟩
      go_region_held3 (fun w' => w'.cell? ⟨W.heap.size, 0, none⟩ = some (.string nm) ∧ w'.cell? ⟨W.heap.size, 1, none⟩ = some (.slice pp pn pc) ∧ w'.cell? ⟨W.heap.size, 2, none⟩ = some (.int .i64 rt) ∧ w'.cell? ⟨W.heap.size, 3, none⟩ = some (.slice bp n bc) ∧ w'.cell? ⟨bm, 0, none⟩ = some (.string nm1) ∧ w'.cell? ⟨bm, 1, none⟩ = some (.slice pp1 pn1 pc1) ∧ w'.cell? ⟨bm, 2, none⟩ = some (.int .i64 rt1) ∧ w'.cell? ⟨bm, 3, none⟩ = some (.slice bp1 bn1 bc1) ∧ W.heap.size < w'.heap.size ∧ bm < w'.heap.size ∧ Below W.heap.size W w')
        (((try dsimp only); (repeat' apply And.intro) <;> (first | (with_reducible assumption) | (rw [World.cell?_drew]; with_reducible assumption) | (with_reducible apply below_drew; with_reducible assumption) | (simp <;> omega))))
        (first
          | ((fail_if_success (have := M1))
             (with_reducible refine' (cA _ _ ?pre).mono ?_)
             case pre => (refine ⟨⟨?_, ?_, ?_, ?_, ?_, ?_, ?_, ?_, ?_, ?_, ?_⟩, ?_⟩ <;> (first | (with_reducible assumption) | (rw [World.cell?_drew]; with_reducible assumption) | (with_reducible apply below_drew; with_reducible assumption) | (with_reducible apply Hold.drew; with_reducible assumption) | (simp <;> omega) | omega))
             rintro e wsa ⟨R, vs, h, rfl, sa0, sa1, sa2, sa3, sa4, sa5, sa6, sa7, sa8, sa9, sa10, hz1, sah⟩
             have M1 : True := trivial)
          | ((with_reducible refine' (cA _ _ ?pre).mono ?_)
             case pre => (refine ⟨⟨?_, ?_, ?_, ?_, ?_, ?_, ?_, ?_, ?_, ?_, ?_⟩, ?_⟩ <;> (first | (with_reducible assumption) | (rw [World.cell?_drew]; with_reducible assumption) | (with_reducible apply below_drew; with_reducible assumption) | (with_reducible apply Hold.drew; with_reducible assumption) | (simp <;> omega) | omega))
             rintro e wsb ⟨R', vs', h', rfl, sb0, sb1, sb2, sb3, sb4, sb5, sb6, sb7, sb8, sb9, sb10, hz2, sbh⟩))
      all_goals
        go_wp2_with fail
        go_meet
        exact ⟨R, vs, h, R', vs', h', rfl, rfl, hz1.2.2 (Row.mk R2 h2 vs2 (fun t => ints (kids S n t))) (by simp), hz1.2.1, hz2.2.2 ⟨R, h, vs, (fun t => ints (frUpto S n t))⟩ (by simp), hz2.2.1, sbh.get _ (.head _)⟩
  case rest =>
  obtain ⟨R3, vs3, h3, R4, vs4, h4, rfl, rfl, hlo3, hlt3, hlo4, hlt4, hK2⟩ := hcut
  generalize wc = w6 at *
  have HK2 := Lib.hid hK2
  clear hK2
  go_upto_region 8 with fail
  go_cut [8, 9] (fun s s' wx => Two W [.string nm, .slice pp pn pc, .int .i64 rt, .slice bp n bc] [.string nm1, .slice pp1 pn1 pc1, .int .i64 rt1, .slice bp1 bn1 bc1] bm lm hm y n h4 (((([] ++ [(Row.mk R1 h1 vs1 (fun t => ints (kids S n t)))]) ++ [(Row.mk R2 h2 vs2 (fun t => ints (kids S n t)))]) ++ [(Row.mk R3 h3 vs3 (fun t => ints (frUpto S n t)))]) ++ [(Row.mk R4 h4 vs4 (fun t => ints (frUpto S n t)))]) (fun t => ints (kids S n t)) (fun t => ints (frUpto S n t)) s s' wx)
  case first =>
      obtain ⟨k0, k1, k2, k3, k4, k5, k6, k7, k8, k9, k10⟩ := HS4.out w6 _ HK2.out
      have kh : Hold [(fun u => Keep W [.string nm, .slice pp pn pc, .int .i64 rt, .slice bp n bc] [.string nm1, .slice pp1 pn1 pc1, .int .i64 rt1, .slice bp1 bn1 bc1] bm lm hm y n (((([] ++ [(Row.mk R1 h1 vs1 (fun t => ints (kids S n t)))]) ++ [(Row.mk R2 h2 vs2 (fun t => ints (kids S n t)))]) ++ [(Row.mk R3 h3 vs3 (fun t => ints (frUpto S n t)))]) ++ [(Row.mk R4 h4 vs4 (fun t => ints (frUpto S n t)))]) u)] w6 := Hold.one HK2.out.all
      have cA : ∀ l w, ((w.cell? ⟨W.heap.size, 0, none⟩ = some (.string nm) ∧ w.cell? ⟨W.heap.size, 1, none⟩ = some (.slice pp pn pc) ∧ w.cell? ⟨W.heap.size, 2, none⟩ = some (.int .i64 rt) ∧ w.cell? ⟨W.heap.size, 3, none⟩ = some (.slice bp n bc) ∧ w.cell? ⟨bm, 0, none⟩ = some (.string nm1) ∧ w.cell? ⟨bm, 1, none⟩ = some (.slice pp1 pn1 pc1) ∧ w.cell? ⟨bm, 2, none⟩ = some (.int .i64 rt1) ∧ w.cell? ⟨bm, 3, none⟩ = some (.slice bp1 bn1 bc1) ∧ W.heap.size < w.heap.size ∧ bm < w.heap.size ∧ Below W.heap.size W w) ∧ Hold [(fun u => Keep W [.string nm, .slice pp pn pc, .int .i64 rt, .slice bp n bc] [.string nm1, .slice pp1 pn1 pc1, .int .i64 rt1, .slice bp1 bn1 bc1] bm lm hm y n l u)] w) → Calls Try.prog 15 #[.agg #[.string nm, .slice pp pn pc, .int .i64 rt, .slice bp n bc]] w fun e w' => ∃ R vs h, e = .returned (.slice (some ⟨R, 0, none⟩) n n) ∧ w'.cell? ⟨W.heap.size, 0, none⟩ = some (.string nm) ∧ w'.cell? ⟨W.heap.size, 1, none⟩ = some (.slice pp pn pc) ∧ w'.cell? ⟨W.heap.size, 2, none⟩ = some (.int .i64 rt) ∧ w'.cell? ⟨W.heap.size, 3, none⟩ = some (.slice bp n bc) ∧ w'.cell? ⟨bm, 0, none⟩ = some (.string nm1) ∧ w'.cell? ⟨bm, 1, none⟩ = some (.slice pp1 pn1 pc1) ∧ w'.cell? ⟨bm, 2, none⟩ = some (.int .i64 rt1) ∧ w'.cell? ⟨bm, 3, none⟩ = some (.slice bp1 bn1 bc1) ∧ W.heap.size < w'.heap.size ∧ bm < w'.heap.size ∧ Below W.heap.size W w' ∧ (bm < R ∧ R < h ∧ (∀ x ∈ l, x.h ≤ R)) ∧ Hold [(fun u => Keep W [.string nm, .slice pp pn pc, .int .i64 rt, .slice bp n bc] [.string nm1, .slice pp1 pn1 pc1, .int .i64 rt1, .slice bp1 bn1 bc1] bm lm hm y n (l ++ [⟨R, h, vs, (fun t => ints (kids S n t))⟩]) u)] w' := by
        rintro l w ⟨k, kh⟩
        have hk := kh.get (fun u => Keep W [.string nm, .slice pp pn pc, .int .i64 rt, .slice bp n bc] [.string nm1, .slice pp1 pn1 pc1, .int .i64 rt1, .slice bp1 bn1 bc1] bm lm hm y n l u) (.head _)
        refine (HC.out.2.2.1 w k.2.2.2.2.2.2.2.2.2.2).mono ?_
        rintro e w' ⟨R, vs, he, hp, hR, hl⟩
        obtain ⟨q0, q1, q2, q3, q4, q5, q6, q7, q8, q9, q10⟩ := HSS.out w w' k hp.2
        exact ⟨R, vs, w'.heap.size, he, q0, q1, q2, q3, q4, q5, q6, q7, q8, q9, q10, ⟨Nat.lt_of_lt_of_le k.2.2.2.2.2.2.2.2.2.1 hR, hl.row.lt, fun x hx => Nat.le_trans (hk.2 x hx).2.2.1 hR⟩, Hold.one ((hk.later hp.2).snoc (x := ⟨R, w'.heap.size, vs, (fun t => ints (kids S n t))⟩) (LLb.new hl)).all⟩
      have cB : ∀ l w, ((w.cell? ⟨W.heap.size, 0, none⟩ = some (.string nm) ∧ w.cell? ⟨W.heap.size, 1, none⟩ = some (.slice pp pn pc) ∧ w.cell? ⟨W.heap.size, 2, none⟩ = some (.int .i64 rt) ∧ w.cell? ⟨W.heap.size, 3, none⟩ = some (.slice bp n bc) ∧ w.cell? ⟨bm, 0, none⟩ = some (.string nm1) ∧ w.cell? ⟨bm, 1, none⟩ = some (.slice pp1 pn1 pc1) ∧ w.cell? ⟨bm, 2, none⟩ = some (.int .i64 rt1) ∧ w.cell? ⟨bm, 3, none⟩ = some (.slice bp1 bn1 bc1) ∧ W.heap.size < w.heap.size ∧ bm < w.heap.size ∧ Below W.heap.size W w) ∧ Hold [(fun u => Keep W [.string nm, .slice pp pn pc, .int .i64 rt, .slice bp n bc] [.string nm1, .slice pp1 pn1 pc1, .int .i64 rt1, .slice bp1 bn1 bc1] bm lm hm y n l u)] w) → Calls Try.prog 16 #[.agg #[.string nm, .slice pp pn pc, .int .i64 rt, .slice bp n bc]] w fun e w' => ∃ R vs h, e = .returned (.slice (some ⟨R, 0, none⟩) n n) ∧ w'.cell? ⟨W.heap.size, 0, none⟩ = some (.string nm) ∧ w'.cell? ⟨W.heap.size, 1, none⟩ = some (.slice pp pn pc) ∧ w'.cell? ⟨W.heap.size, 2, none⟩ = some (.int .i64 rt) ∧ w'.cell? ⟨W.heap.size, 3, none⟩ = some (.slice bp n bc) ∧ w'.cell? ⟨bm, 0, none⟩ = some (.string nm1) ∧ w'.cell? ⟨bm, 1, none⟩ = some (.slice pp1 pn1 pc1) ∧ w'.cell? ⟨bm, 2, none⟩ = some (.int .i64 rt1) ∧ w'.cell? ⟨bm, 3, none⟩ = some (.slice bp1 bn1 bc1) ∧ W.heap.size < w'.heap.size ∧ bm < w'.heap.size ∧ Below W.heap.size W w' ∧ (bm < R ∧ R < h ∧ (∀ x ∈ l, x.h ≤ R)) ∧ Hold [(fun u => Keep W [.string nm, .slice pp pn pc, .int .i64 rt, .slice bp n bc] [.string nm1, .slice pp1 pn1 pc1, .int .i64 rt1, .slice bp1 bn1 bc1] bm lm hm y n (l ++ [⟨R, h, vs, (fun t => ints (frUpto S n t))⟩]) u)] w' := by
        rintro l w ⟨k, kh⟩
        have hk := kh.get (fun u => Keep W [.string nm, .slice pp pn pc, .int .i64 rt, .slice bp n bc] [.string nm1, .slice pp1 pn1 pc1, .int .i64 rt1, .slice bp1 bn1 bc1] bm lm hm y n l u) (.head _)
        refine (HC.out.2.2.2.1 w k.2.2.2.2.2.2.2.2.2.2).mono ?_
        rintro e w' ⟨R, vs, he, hp, hR, hl⟩
        obtain ⟨q0, q1, q2, q3, q4, q5, q6, q7, q8, q9, q10⟩ := HSS.out w w' k hp.2
        exact ⟨R, vs, w'.heap.size, he, q0, q1, q2, q3, q4, q5, q6, q7, q8, q9, q10, ⟨Nat.lt_of_lt_of_le k.2.2.2.2.2.2.2.2.2.1 hR, hl.row.lt, fun x hx => Nat.le_trans (hk.2 x hx).2.2.1 hR⟩, Hold.one ((hk.later hp.2).snoc (x := ⟨R, w'.heap.size, vs, (fun t => ints (frUpto S n t))⟩) (LLb.new hl)).all⟩
      go_region_held3 (fun w' => w'.cell? ⟨W.heap.size, 0, none⟩ = some (.string nm) ∧ w'.cell? ⟨W.heap.size, 1, none⟩ = some (.slice pp pn pc) ∧ w'.cell? ⟨W.heap.size, 2, none⟩ = some (.int .i64 rt) ∧ w'.cell? ⟨W.heap.size, 3, none⟩ = some (.slice bp n bc) ∧ w'.cell? ⟨bm, 0, none⟩ = some (.string nm1) ∧ w'.cell? ⟨bm, 1, none⟩ = some (.slice pp1 pn1 pc1) ∧ w'.cell? ⟨bm, 2, none⟩ = some (.int .i64 rt1) ∧ w'.cell? ⟨bm, 3, none⟩ = some (.slice bp1 bn1 bc1) ∧ W.heap.size < w'.heap.size ∧ bm < w'.heap.size ∧ Below W.heap.size W w')
        (((try dsimp only); (repeat' apply And.intro) <;> (first | (with_reducible assumption) | (rw [World.cell?_drew]; with_reducible assumption) | (with_reducible apply below_drew; with_reducible assumption) | (simp <;> omega))))
        (first
          | ((with_reducible refine' (cA _ _ ?pre).mono ?_)
             case pre => (refine ⟨⟨?_, ?_, ?_, ?_, ?_, ?_, ?_, ?_, ?_, ?_, ?_⟩, ?_⟩ <;> (first | (with_reducible assumption) | (rw [World.cell?_drew]; with_reducible assumption) | (with_reducible apply below_drew; with_reducible assumption) | (with_reducible apply Hold.drew; with_reducible assumption) | (simp <;> omega) | omega))
             rintro e wsa ⟨R, vs, h, rfl, sa0, sa1, sa2, sa3, sa4, sa5, sa6, sa7, sa8, sa9, sa10, hz1, sah⟩)
          | ((with_reducible refine' (cB _ _ ?pre).mono ?_)
             case pre => (refine ⟨⟨?_, ?_, ?_, ?_, ?_, ?_, ?_, ?_, ?_, ?_, ?_⟩, ?_⟩ <;> (first | (with_reducible assumption) | (rw [World.cell?_drew]; with_reducible assumption) | (with_reducible apply below_drew; with_reducible assumption) | (with_reducible apply Hold.drew; with_reducible assumption) | (simp <;> omega) | omega))
             rintro e wsb ⟨R', vs', h', rfl, sb0, sb1, sb2, sb3, sb4, sb5, sb6, sb7, sb8, sb9, sb10, hz2, sbh⟩))
      all_goals
        go_wp2_with fail
        go_meet
        exact ⟨R, vs, h, R', vs', h', rfl, rfl, hz1.2.2 (Row.mk R4 h4 vs4 (fun t => ints (frUpto S n t))) (by simp), hz1.2.1, hz2.2.2 ⟨R, h, vs, (fun t => ints (kids S n t))⟩ (by simp), hz2.2.1, sbh.get _ (.head _)⟩
  case rest =>
  obtain ⟨R5, vs5, h5, R6, vs6, h6, rfl, rfl, hlo5, hlt5, hlo6, hlt6, hK3⟩ := hcut
  generalize wc = w7 at *
  have HK3 := Lib.hid hK3
  clear hK3
  obtain ⟨l3, el3⟩ : ∃ l3, l3 = (((((([] ++ [(Row.mk R1 h1 vs1 (fun t => ints (kids S n t)))]) ++ [(Row.mk R2 h2 vs2 (fun t => ints (kids S n t)))]) ++ [(Row.mk R3 h3 vs3 (fun t => ints (frUpto S n t)))]) ++ [(Row.mk R4 h4 vs4 (fun t => ints (frUpto S n t)))]) ++ [(Row.mk R5 h5 vs5 (fun t => ints (kids S n t)))]) ++ [(Row.mk R6 h6 vs6 (fun t => ints (frUpto S n t)))]) := ⟨_, rfl⟩
  rw [← el3] at HK3
  have HM6 : Hid (∀ w, Keep W [.string nm, .slice pp pn pc, .int .i64 rt, .slice bp n bc] [.string nm1, .slice pp1 pn1 pc1, .int .i64 rt1, .slice bp1 bn1 bc1] bm lm hm y n l3 w → LLb R1 h1 n vs1 (fun t => ints (kids S n t)) w ∧ LLb R2 h2 n vs2 (fun t => ints (kids S n t)) w ∧ LLb R3 h3 n vs3 (fun t => ints (frUpto S n t)) w ∧ LLb R4 h4 n vs4 (fun t => ints (frUpto S n t)) w ∧ LLb R5 h5 n vs5 (fun t => ints (kids S n t)) w ∧ LLb R6 h6 n vs6 (fun t => ints (frUpto S n t)) w) := Lib.hid (by
    subst el3
    intro w h
    exact ⟨h.2 (Row.mk R1 h1 vs1 (fun t => ints (kids S n t))) (by simp), h.2 (Row.mk R2 h2 vs2 (fun t => ints (kids S n t))) (by simp), h.2 (Row.mk R3 h3 vs3 (fun t => ints (frUpto S n t))) (by simp), h.2 (Row.mk R4 h4 vs4 (fun t => ints (frUpto S n t))) (by simp), h.2 (Row.mk R5 h5 vs5 (fun t => ints (kids S n t))) (by simp), h.2 (Row.mk R6 h6 vs6 (fun t => ints (frUpto S n t))) (by simp)⟩)
  clear HK0 HK1 HK2 el3
  go_upto_region 9 with fail
  go_cut [51] (fun s wx => s = .bool false ∧ Keep W [.string nm, .slice pp pn pc, .int .i64 rt, .slice bp n bc] [.string nm1, .slice pp1 pn1 pc1, .int .i64 rt1, .slice bp1 bn1 bc1] bm lm hm y n l3 wx)
  case first =>
      obtain ⟨k0, k1, k2, k3, k4, k5, k6, k7, k8, k9, k10⟩ := HS4.out w7 _ HK3.out
      have kh : Hold [(fun u => Keep W [.string nm, .slice pp pn pc, .int .i64 rt, .slice bp n bc] [.string nm1, .slice pp1 pn1 pc1, .int .i64 rt1, .slice bp1 bn1 bc1] bm lm hm y n l3 u)] w7 := Hold.one HK3.out.all
      have cA : ∀ w, ((w.cell? ⟨W.heap.size, 0, none⟩ = some (.string nm) ∧ w.cell? ⟨W.heap.size, 1, none⟩ = some (.slice pp pn pc) ∧ w.cell? ⟨W.heap.size, 2, none⟩ = some (.int .i64 rt) ∧ w.cell? ⟨W.heap.size, 3, none⟩ = some (.slice bp n bc) ∧ w.cell? ⟨bm, 0, none⟩ = some (.string nm1) ∧ w.cell? ⟨bm, 1, none⟩ = some (.slice pp1 pn1 pc1) ∧ w.cell? ⟨bm, 2, none⟩ = some (.int .i64 rt1) ∧ w.cell? ⟨bm, 3, none⟩ = some (.slice bp1 bn1 bc1) ∧ W.heap.size < w.heap.size ∧ bm < w.heap.size ∧ Below W.heap.size W w) ∧ Hold [(fun u => Keep W [.string nm, .slice pp pn pc, .int .i64 rt, .slice bp n bc] [.string nm1, .slice pp1 pn1 pc1, .int .i64 rt1, .slice bp1 bn1 bc1] bm lm hm y n l3 u)] w) → Calls Try.prog 18 #[.agg #[.string nm1, .slice pp1 pn1 pc1, .int .i64 rt1, .slice bp1 bn1 bc1]] w fun e w' => ∃ R, e = .returned (.slice (some ⟨R, 0, none⟩) n n) ∧ w'.cell? ⟨W.heap.size, 0, none⟩ = some (.string nm) ∧ w'.cell? ⟨W.heap.size, 1, none⟩ = some (.slice pp pn pc) ∧ w'.cell? ⟨W.heap.size, 2, none⟩ = some (.int .i64 rt) ∧ w'.cell? ⟨W.heap.size, 3, none⟩ = some (.slice bp n bc) ∧ w'.cell? ⟨bm, 0, none⟩ = some (.string nm1) ∧ w'.cell? ⟨bm, 1, none⟩ = some (.slice pp1 pn1 pc1) ∧ w'.cell? ⟨bm, 2, none⟩ = some (.int .i64 rt1) ∧ w'.cell? ⟨bm, 3, none⟩ = some (.slice bp1 bn1 bc1) ∧ W.heap.size < w'.heap.size ∧ bm < w'.heap.size ∧ Below W.heap.size W w' ∧ Hold [UpQ S n R, (fun u => Keep W [.string nm, .slice pp pn pc, .int .i64 rt, .slice bp n bc] [.string nm1, .slice pp1 pn1 pc1, .int .i64 rt1, .slice bp1 bn1 bc1] bm lm hm y n l3 u)] w' := by
        rintro w ⟨k, kh⟩
        refine (HN.out.2.2.1 w (kh.get (fun u => Keep W [.string nm, .slice pp pn pc, .int .i64 rt, .slice bp n bc] [.string nm1, .slice pp1 pn1 pc1, .int .i64 rt1, .slice bp1 bn1 bc1] bm lm hm y n l3 u) (.head _)).1.mine).mono ?_
        rintro e w' ⟨R, he, hp, hR, hl⟩
        obtain ⟨q0, q1, q2, q3, q4, q5, q6, q7, q8, q9, q10⟩ := HSS.out w w' k hp.2
        exact ⟨R, he, q0, q1, q2, q3, q4, q5, q6, q7, q8, q9, q10, kh.cons hp.2 (UpQ.all hl)⟩
      have cB : ∀ R w, ((w.cell? ⟨W.heap.size, 0, none⟩ = some (.string nm) ∧ w.cell? ⟨W.heap.size, 1, none⟩ = some (.slice pp pn pc) ∧ w.cell? ⟨W.heap.size, 2, none⟩ = some (.int .i64 rt) ∧ w.cell? ⟨W.heap.size, 3, none⟩ = some (.slice bp n bc) ∧ w.cell? ⟨bm, 0, none⟩ = some (.string nm1) ∧ w.cell? ⟨bm, 1, none⟩ = some (.slice pp1 pn1 pc1) ∧ w.cell? ⟨bm, 2, none⟩ = some (.int .i64 rt1) ∧ w.cell? ⟨bm, 3, none⟩ = some (.slice bp1 bn1 bc1) ∧ W.heap.size < w.heap.size ∧ bm < w.heap.size ∧ Below W.heap.size W w) ∧ Hold [UpQ S n R, (fun u => Keep W [.string nm, .slice pp pn pc, .int .i64 rt, .slice bp n bc] [.string nm1, .slice pp1 pn1 pc1, .int .i64 rt1, .slice bp1 bn1 bc1] bm lm hm y n l3 u)] w) → Calls Try.prog 19 #[.agg #[.string nm, .slice pp pn pc, .int .i64 rt, .slice bp n bc]] w fun e w' => ∃ R2, e = .returned (.slice (some ⟨R2, 0, none⟩) n n) ∧ w'.cell? ⟨W.heap.size, 0, none⟩ = some (.string nm) ∧ w'.cell? ⟨W.heap.size, 1, none⟩ = some (.slice pp pn pc) ∧ w'.cell? ⟨W.heap.size, 2, none⟩ = some (.int .i64 rt) ∧ w'.cell? ⟨W.heap.size, 3, none⟩ = some (.slice bp n bc) ∧ w'.cell? ⟨bm, 0, none⟩ = some (.string nm1) ∧ w'.cell? ⟨bm, 1, none⟩ = some (.slice pp1 pn1 pc1) ∧ w'.cell? ⟨bm, 2, none⟩ = some (.int .i64 rt1) ∧ w'.cell? ⟨bm, 3, none⟩ = some (.slice bp1 bn1 bc1) ∧ W.heap.size < w'.heap.size ∧ bm < w'.heap.size ∧ Below W.heap.size W w' ∧ Hold [UpQ S n R2, UpQ S n R, (fun u => Keep W [.string nm, .slice pp pn pc, .int .i64 rt, .slice bp n bc] [.string nm1, .slice pp1 pn1 pc1, .int .i64 rt1, .slice bp1 bn1 bc1] bm lm hm y n l3 u)] w' := by
        rintro R w ⟨k, kh⟩
        refine (HC.out.2.2.2.2 w k.2.2.2.2.2.2.2.2.2.2).mono ?_
        rintro e w' ⟨R2, he, hp, hR, hl⟩
        obtain ⟨q0, q1, q2, q3, q4, q5, q6, q7, q8, q9, q10⟩ := HSS.out w w' k hp.2
        exact ⟨R2, he, q0, q1, q2, q3, q4, q5, q6, q7, q8, q9, q10, kh.cons hp.2 (UpQ.all hl)⟩
      have cC : ∀ R R2 w, ((w.cell? ⟨W.heap.size, 0, none⟩ = some (.string nm) ∧ w.cell? ⟨W.heap.size, 1, none⟩ = some (.slice pp pn pc) ∧ w.cell? ⟨W.heap.size, 2, none⟩ = some (.int .i64 rt) ∧ w.cell? ⟨W.heap.size, 3, none⟩ = some (.slice bp n bc) ∧ w.cell? ⟨bm, 0, none⟩ = some (.string nm1) ∧ w.cell? ⟨bm, 1, none⟩ = some (.slice pp1 pn1 pc1) ∧ w.cell? ⟨bm, 2, none⟩ = some (.int .i64 rt1) ∧ w.cell? ⟨bm, 3, none⟩ = some (.slice bp1 bn1 bc1) ∧ W.heap.size < w.heap.size ∧ bm < w.heap.size ∧ Below W.heap.size W w) ∧ Hold [UpQ S n R2, UpQ S n R, (fun u => Keep W [.string nm, .slice pp pn pc, .int .i64 rt, .slice bp n bc] [.string nm1, .slice pp1 pn1 pc1, .int .i64 rt1, .slice bp1 bn1 bc1] bm lm hm y n l3 u)] w) → Calls Try.prog 17 #[.slice (some ⟨R, 0, none⟩) n n, .slice (some ⟨R2, 0, none⟩) n n] w fun e w' => e = .returned (.bool true) ∧ w'.cell? ⟨W.heap.size, 0, none⟩ = some (.string nm) ∧ w'.cell? ⟨W.heap.size, 1, none⟩ = some (.slice pp pn pc) ∧ w'.cell? ⟨W.heap.size, 2, none⟩ = some (.int .i64 rt) ∧ w'.cell? ⟨W.heap.size, 3, none⟩ = some (.slice bp n bc) ∧ w'.cell? ⟨bm, 0, none⟩ = some (.string nm1) ∧ w'.cell? ⟨bm, 1, none⟩ = some (.slice pp1 pn1 pc1) ∧ w'.cell? ⟨bm, 2, none⟩ = some (.int .i64 rt1) ∧ w'.cell? ⟨bm, 3, none⟩ = some (.slice bp1 bn1 bc1) ∧ W.heap.size < w'.heap.size ∧ bm < w'.heap.size ∧ Below W.heap.size W w' ∧ Hold [(fun u => Keep W [.string nm, .slice pp pn pc, .int .i64 rt, .slice bp n bc] [.string nm1, .slice pp1 pn1 pc1, .int .i64 rt1, .slice bp1 bn1 bc1] bm lm hm y n l3 u)] w' := by
        rintro R R2 w ⟨k, kh⟩
        refine (Ints_any w (some ⟨R, 0, none⟩) (some ⟨R2, 0, none⟩) n n n n ((List.range n).map (upI S)) ((List.range n).map (upI S)) (rowIs_in (kh.get (UpQ S n R) (.tail _ (.head _))) hbs) (rowIs_in (kh.get (UpQ S n R2) (.head _)) hbs)).mono ?_
        rintro e w' ⟨bo, he, hi, hb⟩
        obtain ⟨q0, q1, q2, q3, q4, q5, q6, q7, q8, q9, q10⟩ := HSS.out w w' k hb
        exact ⟨by rw [he, hi.2 rfl], q0, q1, q2, q3, q4, q5, q6, q7, q8, q9, q10, (Hold.one (kh.get (fun u => Keep W [.string nm, .slice pp pn pc, .int .i64 rt, .slice bp n bc] [.string nm1, .slice pp1 pn1 pc1, .int .i64 rt1, .slice bp1 bn1 bc1] bm lm hm y n l3 u) (.tail _ (.tail _ (.head _)))).all).later hb⟩
      have cD : ∀ w, ((w.cell? ⟨W.heap.size, 0, none⟩ = some (.string nm) ∧ w.cell? ⟨W.heap.size, 1, none⟩ = some (.slice pp pn pc) ∧ w.cell? ⟨W.heap.size, 2, none⟩ = some (.int .i64 rt) ∧ w.cell? ⟨W.heap.size, 3, none⟩ = some (.slice bp n bc) ∧ w.cell? ⟨bm, 0, none⟩ = some (.string nm1) ∧ w.cell? ⟨bm, 1, none⟩ = some (.slice pp1 pn1 pc1) ∧ w.cell? ⟨bm, 2, none⟩ = some (.int .i64 rt1) ∧ w.cell? ⟨bm, 3, none⟩ = some (.slice bp1 bn1 bc1) ∧ W.heap.size < w.heap.size ∧ bm < w.heap.size ∧ Below W.heap.size W w) ∧ Hold [(fun u => Keep W [.string nm, .slice pp pn pc, .int .i64 rt, .slice bp n bc] [.string nm1, .slice pp1 pn1 pc1, .int .i64 rt1, .slice bp1 bn1 bc1] bm lm hm y n l3 u)] w) → Calls Try.prog 20 #[.slice (some ⟨R1, 0, none⟩) n n, .slice (some ⟨R5, 0, none⟩) n n] w fun e w' => e = .returned (.bool true) ∧ w'.cell? ⟨W.heap.size, 0, none⟩ = some (.string nm) ∧ w'.cell? ⟨W.heap.size, 1, none⟩ = some (.slice pp pn pc) ∧ w'.cell? ⟨W.heap.size, 2, none⟩ = some (.int .i64 rt) ∧ w'.cell? ⟨W.heap.size, 3, none⟩ = some (.slice bp n bc) ∧ w'.cell? ⟨bm, 0, none⟩ = some (.string nm1) ∧ w'.cell? ⟨bm, 1, none⟩ = some (.slice pp1 pn1 pc1) ∧ w'.cell? ⟨bm, 2, none⟩ = some (.int .i64 rt1) ∧ w'.cell? ⟨bm, 3, none⟩ = some (.slice bp1 bn1 bc1) ∧ W.heap.size < w'.heap.size ∧ bm < w'.heap.size ∧ Below W.heap.size W w' ∧ Hold [(fun u => Keep W [.string nm, .slice pp pn pc, .int .i64 rt, .slice bp n bc] [.string nm1, .slice pp1 pn1 pc1, .int .i64 rt1, .slice bp1 bn1 bc1] bm lm hm y n l3 u)] w' := by
        rintro w ⟨k, kh⟩
        refine (Lists_same R1 R5 n vs1 vs5 (fun t => ints (kids S n t)) w (HM6.out w (kh.get (fun u => Keep W [.string nm, .slice pp pn pc, .int .i64 rt, .slice bp n bc] [.string nm1, .slice pp1 pn1 pc1, .int .i64 rt1, .slice bp1 bn1 bc1] bm lm hm y n l3 u) (.head _))).1.1 (HM6.out w (kh.get (fun u => Keep W [.string nm, .slice pp pn pc, .int .i64 rt, .slice bp n bc] [.string nm1, .slice pp1 pn1 pc1, .int .i64 rt1, .slice bp1 bn1 bc1] bm lm hm y n l3 u) (.head _))).2.2.2.2.1.1 hbs).mono ?_
        rintro e w' ⟨he, hb⟩
        obtain ⟨q0, q1, q2, q3, q4, q5, q6, q7, q8, q9, q10⟩ := HSS.out w w' k hb
        exact ⟨he, q0, q1, q2, q3, q4, q5, q6, q7, q8, q9, q10, kh.later hb⟩
      have cE : ∀ w, ((w.cell? ⟨W.heap.size, 0, none⟩ = some (.string nm) ∧ w.cell? ⟨W.heap.size, 1, none⟩ = some (.slice pp pn pc) ∧ w.cell? ⟨W.heap.size, 2, none⟩ = some (.int .i64 rt) ∧ w.cell? ⟨W.heap.size, 3, none⟩ = some (.slice bp n bc) ∧ w.cell? ⟨bm, 0, none⟩ = some (.string nm1) ∧ w.cell? ⟨bm, 1, none⟩ = some (.slice pp1 pn1 pc1) ∧ w.cell? ⟨bm, 2, none⟩ = some (.int .i64 rt1) ∧ w.cell? ⟨bm, 3, none⟩ = some (.slice bp1 bn1 bc1) ∧ W.heap.size < w.heap.size ∧ bm < w.heap.size ∧ Below W.heap.size W w) ∧ Hold [(fun u => Keep W [.string nm, .slice pp pn pc, .int .i64 rt, .slice bp n bc] [.string nm1, .slice pp1 pn1 pc1, .int .i64 rt1, .slice bp1 bn1 bc1] bm lm hm y n l3 u)] w) → Calls Try.prog 20 #[.slice (some ⟨R3, 0, none⟩) n n, .slice (some ⟨R6, 0, none⟩) n n] w fun e w' => e = .returned (.bool true) ∧ w'.cell? ⟨W.heap.size, 0, none⟩ = some (.string nm) ∧ w'.cell? ⟨W.heap.size, 1, none⟩ = some (.slice pp pn pc) ∧ w'.cell? ⟨W.heap.size, 2, none⟩ = some (.int .i64 rt) ∧ w'.cell? ⟨W.heap.size, 3, none⟩ = some (.slice bp n bc) ∧ w'.cell? ⟨bm, 0, none⟩ = some (.string nm1) ∧ w'.cell? ⟨bm, 1, none⟩ = some (.slice pp1 pn1 pc1) ∧ w'.cell? ⟨bm, 2, none⟩ = some (.int .i64 rt1) ∧ w'.cell? ⟨bm, 3, none⟩ = some (.slice bp1 bn1 bc1) ∧ W.heap.size < w'.heap.size ∧ bm < w'.heap.size ∧ Below W.heap.size W w' ∧ Hold [(fun u => Keep W [.string nm, .slice pp pn pc, .int .i64 rt, .slice bp n bc] [.string nm1, .slice pp1 pn1 pc1, .int .i64 rt1, .slice bp1 bn1 bc1] bm lm hm y n l3 u)] w' := by
        rintro w ⟨k, kh⟩
        refine (Lists_same R3 R6 n vs3 vs6 (fun t => ints (frUpto S n t)) w (HM6.out w (kh.get (fun u => Keep W [.string nm, .slice pp pn pc, .int .i64 rt, .slice bp n bc] [.string nm1, .slice pp1 pn1 pc1, .int .i64 rt1, .slice bp1 bn1 bc1] bm lm hm y n l3 u) (.head _))).2.2.1.1 (HM6.out w (kh.get (fun u => Keep W [.string nm, .slice pp pn pc, .int .i64 rt, .slice bp n bc] [.string nm1, .slice pp1 pn1 pc1, .int .i64 rt1, .slice bp1 bn1 bc1] bm lm hm y n l3 u) (.head _))).2.2.2.2.2.1 hbs).mono ?_
        rintro e w' ⟨he, hb⟩
        obtain ⟨q0, q1, q2, q3, q4, q5, q6, q7, q8, q9, q10⟩ := HSS.out w w' k hb
        exact ⟨he, q0, q1, q2, q3, q4, q5, q6, q7, q8, q9, q10, kh.later hb⟩
      have cG : ∀ w, ((w.cell? ⟨W.heap.size, 0, none⟩ = some (.string nm) ∧ w.cell? ⟨W.heap.size, 1, none⟩ = some (.slice pp pn pc) ∧ w.cell? ⟨W.heap.size, 2, none⟩ = some (.int .i64 rt) ∧ w.cell? ⟨W.heap.size, 3, none⟩ = some (.slice bp n bc) ∧ w.cell? ⟨bm, 0, none⟩ = some (.string nm1) ∧ w.cell? ⟨bm, 1, none⟩ = some (.slice pp1 pn1 pc1) ∧ w.cell? ⟨bm, 2, none⟩ = some (.int .i64 rt1) ∧ w.cell? ⟨bm, 3, none⟩ = some (.slice bp1 bn1 bc1) ∧ W.heap.size < w.heap.size ∧ bm < w.heap.size ∧ Below W.heap.size W w) ∧ Hold [(fun u => Keep W [.string nm, .slice pp pn pc, .int .i64 rt, .slice bp n bc] [.string nm1, .slice pp1 pn1 pc1, .int .i64 rt1, .slice bp1 bn1 bc1] bm lm hm y n l3 u)] w) → Calls Try.prog 21 #[.agg #[.string nm1, .slice pp1 pn1 pc1, .int .i64 rt1, .slice bp1 bn1 bc1], .agg #[.string nm, .slice pp pn pc, .int .i64 rt, .slice bp n bc]] w fun e w' => e = .returned (.bool true) ∧ w'.cell? ⟨W.heap.size, 0, none⟩ = some (.string nm) ∧ w'.cell? ⟨W.heap.size, 1, none⟩ = some (.slice pp pn pc) ∧ w'.cell? ⟨W.heap.size, 2, none⟩ = some (.int .i64 rt) ∧ w'.cell? ⟨W.heap.size, 3, none⟩ = some (.slice bp n bc) ∧ w'.cell? ⟨bm, 0, none⟩ = some (.string nm1) ∧ w'.cell? ⟨bm, 1, none⟩ = some (.slice pp1 pn1 pc1) ∧ w'.cell? ⟨bm, 2, none⟩ = some (.int .i64 rt1) ∧ w'.cell? ⟨bm, 3, none⟩ = some (.slice bp1 bn1 bc1) ∧ W.heap.size < w'.heap.size ∧ bm < w'.heap.size ∧ Below W.heap.size W w' ∧ Hold [(fun u => Keep W [.string nm, .slice pp pn pc, .int .i64 rt, .slice bp n bc] [.string nm1, .slice pp1 pn1 pc1, .int .i64 rt1, .slice bp1 bn1 bc1] bm lm hm y n l3 u)] w' := by
        rintro w ⟨k, kh⟩
        refine (HN.out.2.2.2 w (kh.get (fun u => Keep W [.string nm, .slice pp pn pc, .int .i64 rt, .slice bp n bc] [.string nm1, .slice pp1 pn1 pc1, .int .i64 rt1, .slice bp1 bn1 bc1] bm lm hm y n l3 u) (.head _)).1.mine k.2.2.2.2.2.2.2.2.2.2).mono ?_
        rintro e w' ⟨he, hb⟩
        obtain ⟨q0, q1, q2, q3, q4, q5, q6, q7, q8, q9, q10⟩ := HSS.out w w' k hb
        exact ⟨he, q0, q1, q2, q3, q4, q5, q6, q7, q8, q9, q10, kh.later hb⟩
      go_region_held3 (fun w' => w'.cell? ⟨W.heap.size, 0, none⟩ = some (.string nm) ∧ w'.cell? ⟨W.heap.size, 1, none⟩ = some (.slice pp pn pc) ∧ w'.cell? ⟨W.heap.size, 2, none⟩ = some (.int .i64 rt) ∧ w'.cell? ⟨W.heap.size, 3, none⟩ = some (.slice bp n bc) ∧ w'.cell? ⟨bm, 0, none⟩ = some (.string nm1) ∧ w'.cell? ⟨bm, 1, none⟩ = some (.slice pp1 pn1 pc1) ∧ w'.cell? ⟨bm, 2, none⟩ = some (.int .i64 rt1) ∧ w'.cell? ⟨bm, 3, none⟩ = some (.slice bp1 bn1 bc1) ∧ W.heap.size < w'.heap.size ∧ bm < w'.heap.size ∧ Below W.heap.size W w')
        (((try dsimp only); (repeat' apply And.intro) <;> (first | (with_reducible assumption) | (rw [World.cell?_drew]; with_reducible assumption) | (with_reducible apply below_drew; with_reducible assumption) | (simp <;> omega))))
        (first
          | ((with_reducible refine' (cA _ ?pre).mono ?_)
             case pre => (refine ⟨⟨?_, ?_, ?_, ?_, ?_, ?_, ?_, ?_, ?_, ?_, ?_⟩, ?_⟩ <;> (first | (with_reducible assumption) | (rw [World.cell?_drew]; with_reducible assumption) | (with_reducible apply below_drew; with_reducible assumption) | (with_reducible apply Hold.drew; with_reducible assumption) | (simp <;> omega) | omega))
             rintro e wsa ⟨Ra, rfl, sa0, sa1, sa2, sa3, sa4, sa5, sa6, sa7, sa8, sa9, sa10, sah⟩)
          | ((with_reducible refine' (cB _ _ ?pre).mono ?_)
             case pre => (refine ⟨⟨?_, ?_, ?_, ?_, ?_, ?_, ?_, ?_, ?_, ?_, ?_⟩, ?_⟩ <;> (first | (with_reducible assumption) | (rw [World.cell?_drew]; with_reducible assumption) | (with_reducible apply below_drew; with_reducible assumption) | (with_reducible apply Hold.drew; with_reducible assumption) | (simp <;> omega) | omega))
             rintro e wsb ⟨Rb, rfl, sb0, sb1, sb2, sb3, sb4, sb5, sb6, sb7, sb8, sb9, sb10, sbh⟩)
          | ((with_reducible refine' (cC _ _ _ ?pre).mono ?_)
             case pre => (refine ⟨⟨?_, ?_, ?_, ?_, ?_, ?_, ?_, ?_, ?_, ?_, ?_⟩, ?_⟩ <;> (first | (with_reducible assumption) | (rw [World.cell?_drew]; with_reducible assumption) | (with_reducible apply below_drew; with_reducible assumption) | (with_reducible apply Hold.drew; with_reducible assumption) | (simp <;> omega) | omega))
             rintro e wsc ⟨rfl, sc0, sc1, sc2, sc3, sc4, sc5, sc6, sc7, sc8, sc9, sc10, sch⟩)
          | ((with_reducible refine' (cD _ ?pre).mono ?_)
             case pre => (refine ⟨⟨?_, ?_, ?_, ?_, ?_, ?_, ?_, ?_, ?_, ?_, ?_⟩, ?_⟩ <;> (first | (with_reducible assumption) | (rw [World.cell?_drew]; with_reducible assumption) | (with_reducible apply below_drew; with_reducible assumption) | (with_reducible apply Hold.drew; with_reducible assumption) | (simp <;> omega) | omega))
             rintro e wsd ⟨rfl, sd0, sd1, sd2, sd3, sd4, sd5, sd6, sd7, sd8, sd9, sd10, sdh⟩)
          | ((with_reducible refine' (cE _ ?pre).mono ?_)
             case pre => (refine ⟨⟨?_, ?_, ?_, ?_, ?_, ?_, ?_, ?_, ?_, ?_, ?_⟩, ?_⟩ <;> (first | (with_reducible assumption) | (rw [World.cell?_drew]; with_reducible assumption) | (with_reducible apply below_drew; with_reducible assumption) | (with_reducible apply Hold.drew; with_reducible assumption) | (simp <;> omega) | omega))
             rintro e wse ⟨rfl, se0, se1, se2, se3, se4, se5, se6, se7, se8, se9, se10, seh⟩)
          | ((with_reducible refine' (cG _ ?pre).mono ?_)
             case pre => (refine ⟨⟨?_, ?_, ?_, ?_, ?_, ?_, ?_, ?_, ?_, ?_, ?_⟩, ?_⟩ <;> (first | (with_reducible assumption) | (rw [World.cell?_drew]; with_reducible assumption) | (with_reducible apply below_drew; with_reducible assumption) | (with_reducible apply Hold.drew; with_reducible assumption) | (simp <;> omega) | omega))
             rintro e wsg ⟨rfl, sg0, sg1, sg2, sg3, sg4, sg5, sg6, sg7, sg8, sg9, sg10, sgh⟩))
      all_goals
        go_wp2_with fail
        go_meet
        exact ⟨rfl, sgh.get (fun u => Keep W [.string nm, .slice pp pn pc, .int .i64 rt, .slice bp n bc] [.string nm1, .slice pp1 pn1 pc1, .int .i64 rt1, .slice bp1 bn1 bc1] bm lm hm y n l3 u) (.head _)⟩
  case rest =>
  obtain ⟨rfl, hK⟩ := hcut
  generalize wc = w8 at *
  have hmm := HM6.out w8 hK
  have HQ := Lib.hid (And.intro hK.1 hmm)
  clear HK3 hK hmm HSS HS4 HM6 l3
  have c1 := Wipe_own R1 n h1 vs1 (fun t => ints (kids S n t)) w8 HQ.out.2.1.1 (fun i hi => by simp only [ints_len]; have := HKL.out i; omega) hbs HQ.out.2.1.2.1 HQ.out.2.1.2.2.1 HQ.out.2.1.2.2.2
  go_wp2_with fail
  refine c1.mono ?_
  rintro e w9 ⟨rfl, hO⟩
  have hQ9 : TS W [.string nm, .slice pp pn pc, .int .i64 rt, .slice bp n bc] [.string nm1, .slice pp1 pn1 pc1, .int .i64 rt1, .slice bp1 bn1 bc1] bm lm hm y w9 ∧ LLb R2 h2 n vs2 (fun t => ints (kids S n t)) w9 ∧ LLb R3 h3 n vs3 (fun t => ints (frUpto S n t)) w9 ∧ LLb R4 h4 n vs4 (fun t => ints (frUpto S n t)) w9 ∧ LLb R5 h5 n vs5 (fun t => ints (kids S n t)) w9 ∧ LLb R6 h6 n vs6 (fun t => ints (frUpto S n t)) w9 :=
    ⟨HQ.out.1.out hO (by omega), HQ.out.2.2.1.out hO (.inr (by omega)), HQ.out.2.2.2.1.out hO (.inr (by omega)), HQ.out.2.2.2.2.1.out hO (.inr (by omega)), HQ.out.2.2.2.2.2.1.out hO (.inr (by omega)), HQ.out.2.2.2.2.2.2.out hO (.inr (by omega))⟩
  have HQ9 := Lib.hid hQ9
  clear c1 HQ hO hQ9
  have c1 := Wipe_own R3 n h3 vs3 (fun t => ints (frUpto S n t)) w9 HQ9.out.2.2.1.1 (fun i hi => by simp only [ints_len]; have := HKL.out i; omega) hbs HQ9.out.2.2.1.2.1 HQ9.out.2.2.1.2.2.1 HQ9.out.2.2.1.2.2.2
  go_wp2_with fail
  refine c1.mono ?_
  rintro e w10 ⟨rfl, hO⟩
  have hQ10 : TS W [.string nm, .slice pp pn pc, .int .i64 rt, .slice bp n bc] [.string nm1, .slice pp1 pn1 pc1, .int .i64 rt1, .slice bp1 bn1 bc1] bm lm hm y w10 ∧ LLb R2 h2 n vs2 (fun t => ints (kids S n t)) w10 ∧ LLb R4 h4 n vs4 (fun t => ints (frUpto S n t)) w10 ∧ LLb R5 h5 n vs5 (fun t => ints (kids S n t)) w10 ∧ LLb R6 h6 n vs6 (fun t => ints (frUpto S n t)) w10 :=
    ⟨HQ9.out.1.out hO (by omega), HQ9.out.2.1.out hO (.inl (by omega)), HQ9.out.2.2.2.1.out hO (.inr (by omega)), HQ9.out.2.2.2.2.1.out hO (.inr (by omega)), HQ9.out.2.2.2.2.2.out hO (.inr (by omega))⟩
  have HQ10 := Lib.hid hQ10
  clear c1 HQ9 hO hQ10
  have c1 := Lists_same R2 R5 n vs2 vs5 (fun t => ints (kids S n t)) w10 HQ10.out.2.1.1 HQ10.out.2.2.2.1.1 hbs
  go_wp2_with fail
  refine c1.mono ?_
  rintro e w11 ⟨rfl, hb11⟩
  have HQ11 := Lib.hid (And.intro (HQ10.out.1.later hb11) (And.intro (HQ10.out.2.2.1.all _ hb11) (HQ10.out.2.2.2.2.all _ hb11)))
  clear c1 HQ10 hb11
  have c1 := Lists_same R4 R6 n vs4 vs6 (fun t => ints (frUpto S n t)) w11 HQ11.out.2.1.1 HQ11.out.2.2.1 hbs
  go_wp2_with fail
  refine c1.mono ?_
  rintro e w12 ⟨rfl, hb12⟩
  have HE := Lib.hid (HQ11.out.1.past.2.trans (hb12.mono HQ11.out.1.past.size))
  clear c1 hb12
  go_wp2_with fail
  go_ret
  exact ⟨rfl, HE.out⟩
end Go.Proofs.Ytphdhndljgihmaa
