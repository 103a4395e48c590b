/- The law DomStands: its walk. -/
import Derived.Test.YtphdhndljgihmaaDPerm
namespace Go.Proofs.Ytphdhndljgihmaa
open Go.RowKit Go.Maps
set_option linter.unusedVariables false
set_option linter.unusedSimpArgs false

/-- Where a block stands in the order's first i. -/
def idN (L : List Nat) (i b : Nat) : Nat := if b ∈ L.take i then L.idxOf b else 0
theorem idN_0 (L : List Nat) (b : Nat) : idN L 0 b = 0 := by simp [idN]
theorem idN_step {L : List Nat} (hn : L.Nodup) {i : Nat} (hi : i < L.length) (b : Nat) : idN L (i + 1) b = if b = L[i] then i else idN L i b := by
  unfold idN
  simp only [mem_take_succ L i b hi]
  by_cases e : b = L[i]
  · rw [if_pos e, if_pos (.inr e), e, hn.idxOf_getElem i hi]
  · rw [if_neg e]
    simp only [e, or_false]
theorem idN_ahead {L : List Nat} (hn : L.Nodup) {u b : Nat} (h : Ahead u b L) : idN L L.length u < idN L L.length b := by
  obtain ⟨i, j, hi, hj, hij, rfl, rfl⟩ := h.idx
  unfold idN
  rw [List.take_length, if_pos (List.getElem_mem hi), if_pos (List.getElem_mem hj), hn.idxOf_getElem i hi, hn.idxOf_getElem j hj]
  exact hij
theorem idN_le (L : List Nat) (i b : Nat) : idN L i b ≤ L.length := by
  unfold idN
  split
  · exact List.idxOf_le_length
  · exact Nat.zero_le _
def OrdQ (p : Option Addr) (c : Nat) (L : List Nat) (w : World) : Prop := ListIn intC NoMem w.heap.size w p L.length c (ints L)
theorem OrdQ.all {p : Option Addr} {c : Nat} {L : List Nat} {w : World} (h : ListIn intC NoMem w.heap.size w p L.length c (ints L)) : ∀ u, Below w.heap.size w u → OrdQ p c L u := fun u hu => h.lasts lasts_NoMem hu hu.size
def RchQ (S : Nat → List Nat) (n R : Nat) (w : World) : Prop := w.rowIs R 4 n (fun i => .bool (rchB S i))
theorem RchQ.all {S : Nat → List Nat} {n R : Nat} {w : World} (h : RchQ S n R w) : ∀ u, Below w.heap.size w u → RchQ S n R u := fun u hu => rowIs_kept h (below_grown hu) (by simp)
theorem RchQ.cell {S : Nat → List Nat} {n R : Nat} {w u : World} (h : RchQ S n R w) (hb : Below w.heap.size w u) {i : Nat} (hi : i < n) : u.cell? ⟨R, i, none⟩ = some (.bool (rchB S i)) := World.rowIs.cell (h.all u hb) hi
/-- Order's, Preds', Reach's and Idom's answers. -/
def FourD (W : World) (cs : List Value) (S : Nat → List Nat) (n : Nat) (L : List Nat) (s4 s5 s6 s7 : Value) (w : World) : Prop :=
  ∃ po co R1 vs R2 R4, s4 = .slice po L.length co ∧ s5 = .slice (some ⟨R1, 0, none⟩) n n ∧ s6 = .slice (some ⟨R2, 0, none⟩) n n ∧ s7 = .slice (some ⟨R4, 0, none⟩) n n ∧ (Past W.heap.size W w ∧ Box W.heap.size cs w) ∧ OrdQ po co L w ∧ PredQ R1 n vs (fun t => ints (predUpto S n t)) w ∧ RchQ S n R2 w ∧ UpQ S n R4 w
set_option maxRecDepth 100000 in
set_option maxHeartbeats 16000000 in
theorem stands_walk (W : World) (f : LFn) (hf : FnIn W.heap.size W f) (hs : FnSm f) (hbs : f.bs.length ≤ 1048576) :
    Calls Try.prog 6 #[.agg (fnC f).toArray] W fun e w' => e = .returned (.bool true) ∧ Below W.heap.size W w' := by
  have cl := lives_any
  have hP := (Past.refl (Nat.le_refl W.heap.size)).alloc (.cells (fnC f).toArray 25)
  have A1 : Box W.heap.size (fnC f) (W.alloc (.cells (fnC f).toArray 25)) := Box.new W rfl _ _
  have cF : ∀ w, Below W.heap.size W w → FnIn w.heap.size w f := fun w h => past_lasts lasts_Fn hf ⟨Nat.le_refl _, h⟩
  have HN : Hid (∀ b, ∀ t ∈ succP (fnD f).bs b, t < f.bs.length) := Lib.hid (fun b t ht => by
    have := succP_lt _ _ t ht
    simpa [fnD] using this)
  obtain ⟨L, hL⟩ := order_ex HN.out
  have hO := hL.ordered HN.out
  have cLo : ∀ w, Below W.heap.size W w → Calls Try.prog 11 #[.agg (fnC f).toArray] w (SomeBool w) := fun w h => long_any f w (cF w h) hbs
  have cId : ∀ w, Below W.heap.size W w → Calls Try.prog 18 #[.agg (fnC f).toArray] w (OwnUp (succP (fnD f).bs) f.bs.length w) := fun w h => Idom_own f w (cF w h) hs hbs
  have cOr : ∀ w, Below W.heap.size W w → Calls Try.prog 26 #[.agg (fnC f).toArray] w (OwnInts L w) := fun w h => Order_own f w (cF w h) hs hbs L hL
  have cPr : ∀ w, Below W.heap.size W w → Calls Try.prog 27 #[.agg (fnC f).toArray] w (OwnLL f.bs.length (fun t => ints (predUpto (succP (fnD f).bs) f.bs.length t)) w) := fun w h => Preds_own f w (cF w h) hs hbs
  have cRe : ∀ w, Below W.heap.size W w → Calls Try.prog 25 #[.agg (fnC f).toArray] w (OwnBools f.bs.length (rchB (succP (fnD f).bs)) w) := fun w h => by
    refine (Reach_own f w (cF w h) hs hbs L hL).mono ?_
    rintro e w' ⟨R, h1, h2, h3, h4⟩
    obtain ⟨c, e1, e2, e3⟩ := h4
    refine ⟨R, h1, h2, h3, c, e1, e2, fun i hi => ?_⟩
    rw [e3 i hi]
    have : decide (i ∈ L) = rchB (succP (fnD f).bs) i := by
      rw [Bool.eq_iff_iff, decide_eq_true_eq, rchB_iff]
      exact hO.rch i (by omega)
    simp only [this]
  have cDm : ∀ (x y : Int) w, Below W.heap.size W w → Calls Try.prog 23 #[.agg (fnC f).toArray, .int .i64 x, .int .i64 y] w fun e w' => e = .returned (.bool (dmI (succP (fnD f).bs) f.bs.length x y)) ∧ Past w.heap.size w w' := fun x y w h => Dominates_any f x y w (cF w h) hs hbs
  obtain ⟨S, eS⟩ : ∃ S, succP (fnD f).bs = S := ⟨_, rfl⟩
  simp only [eS] at cId cRe cDm cPr HN hO
  obtain ⟨nm, pp, pn, pc, ps, rt, bp, bn, bc, bs⟩ := f
  obtain rfl : bn = bs.length := hf.2.1
  show Calls Try.prog 6 #[.agg #[.string nm, .slice pp pn pc, .int .i64 rt, .slice bp bs.length bc]] W _
  have hfc : fnC ⟨nm, pp, pn, pc, ps, rt, bp, bs.length, bc, bs⟩ = [.string nm, .slice pp pn pc, .int .i64 rt, .slice bp bs.length bc] := rfl
  rw [hfc] at A1 hP
  simp only [hfc] at cLo cId cRe cDm cPr cOr
  obtain ⟨n, en⟩ : ∃ n, bs.length = n := ⟨_, rfl⟩
  simp only [en] at cLo cId cRe cDm cPr cOr A1 hP hbs HN hO ⊢
  have HC := Lib.hid (And.intro cLo (And.intro cId (And.intro cRe (And.intro cDm (And.intro cPr cOr)))))
  have HB := Lib.hid (And.intro hP A1)
  have HO := Lib.hid hO
  clear cLo cId cRe cDm cPr cOr hP A1 cF hfc hf hs eS en hO hL
  go_enter Try.func6, Try.ntmps6
  go_wp2_with fail
  refine (cl _).mono ?_
  rintro e w1 ⟨rfl, hb1⟩
  have H1 := Lib.hid (And.intro (HB.out.1.trans ⟨HB.out.1.size, hb1.mono HB.out.1.size⟩) (HB.out.2.later hb1))
  clear hb1 cl HB
  have b0 := H1.out.2.get 0 _ rfl
  have b1 := H1.out.2.get 1 _ rfl
  have b2 := H1.out.2.get 2 _ rfl
  have b3 := H1.out.2.get 3 _ rfl
  have c1 := HC.out.1 w1 H1.out.1.2
  go_wp2_with fail
  refine c1.mono ?_
  rintro e w2 ⟨bl, rfl, hb2⟩
  have H2 := Lib.hid (And.intro (H1.out.1.trans ⟨H1.out.1.size, hb2.mono H1.out.1.size⟩) (H1.out.2.later hb2))
  clear hb2 c1 H1 b0 b1 b2 b3
  cases bl
  case true =>
    go_wp2
    go_ret
    exact ⟨rfl, H2.out.1.2⟩
  have b3 := H2.out.2.get 3 _ rfl
  go_upto_region 6 with fail
  clear b3
  go_cut [4, 5, 6, 7] (fun s4 s5 s6 s7 wx => FourD W [.string nm, .slice pp pn pc, .int .i64 rt, .slice bp n bc] S n L s4 s5 s6 s7 wx)
  case first =>
    have HS : ∀ w w' : World, (w.cell? ⟨W.heap.size, 0, none⟩ = some (.string nm) ∧ w.cell? ⟨W.heap.size, 1, none⟩ = some (.slice pp pn pc) ∧ w.cell? ⟨W.heap.size, 2, none⟩ = some (.int .i64 rt) ∧ w.cell? ⟨W.heap.size, 3, none⟩ = some (.slice bp n bc) ∧ W.heap.size < w.heap.size ∧ Below W.heap.size W w) → Below w.heap.size w w' → (w'.cell? ⟨W.heap.size, 0, none⟩ = some (.string nm) ∧ w'.cell? ⟨W.heap.size, 1, none⟩ = some (.slice pp pn pc) ∧ w'.cell? ⟨W.heap.size, 2, none⟩ = some (.int .i64 rt) ∧ w'.cell? ⟨W.heap.size, 3, none⟩ = some (.slice bp n bc) ∧ W.heap.size < w'.heap.size ∧ Below W.heap.size W w') := by
      rintro w w' ⟨q0, q1, q2, q3, q4, q5⟩ hb
      exact ⟨(hb.cell (p := ⟨W.heap.size, 0, none⟩) q4).trans q0, (hb.cell (p := ⟨W.heap.size, 1, none⟩) q4).trans q1, (hb.cell (p := ⟨W.heap.size, 2, none⟩) q4).trans q2, (hb.cell (p := ⟨W.heap.size, 3, none⟩) q4).trans q3, Nat.lt_of_lt_of_le q4 hb.size, q5.trans (hb.mono (Nat.le_of_lt q4))⟩
    have hS3 : w2.cell? ⟨W.heap.size, 0, none⟩ = some (.string nm) ∧ w2.cell? ⟨W.heap.size, 1, none⟩ = some (.slice pp pn pc) ∧ w2.cell? ⟨W.heap.size, 2, none⟩ = some (.int .i64 rt) ∧ w2.cell? ⟨W.heap.size, 3, none⟩ = some (.slice bp n bc) ∧ W.heap.size < w2.heap.size ∧ Below W.heap.size W w2 := ⟨H2.out.2.get 0 _ rfl, H2.out.2.get 1 _ rfl, H2.out.2.get 2 _ rfl, H2.out.2.get 3 _ rfl, H2.out.2.1, H2.out.1.2⟩
    obtain ⟨k0, k1, k2, k3, k4, k5⟩ := hS3
    have kh : Hold [(fun u => Past W.heap.size W u ∧ Box W.heap.size [.string nm, .slice pp pn pc, .int .i64 rt, .slice bp n bc] u)] w2 := Hold.one (fun u hu => ⟨H2.out.1.trans ⟨H2.out.1.size, hu.mono H2.out.1.size⟩, H2.out.2.later hu⟩)
    have cO : ∀ G w, ((w.cell? ⟨W.heap.size, 0, none⟩ = some (.string nm) ∧ w.cell? ⟨W.heap.size, 1, none⟩ = some (.slice pp pn pc) ∧ w.cell? ⟨W.heap.size, 2, none⟩ = some (.int .i64 rt) ∧ w.cell? ⟨W.heap.size, 3, none⟩ = some (.slice bp n bc) ∧ W.heap.size < w.heap.size ∧ Below W.heap.size W w) ∧ Hold G w) → Calls Try.prog 26 #[.agg #[.string nm, .slice pp pn pc, .int .i64 rt, .slice bp n bc]] w fun e w' => ∃ p c, e = .returned (.slice p L.length c) ∧ w'.cell? ⟨W.heap.size, 0, none⟩ = some (.string nm) ∧ w'.cell? ⟨W.heap.size, 1, none⟩ = some (.slice pp pn pc) ∧ w'.cell? ⟨W.heap.size, 2, none⟩ = some (.int .i64 rt) ∧ w'.cell? ⟨W.heap.size, 3, none⟩ = some (.slice bp n bc) ∧ W.heap.size < w'.heap.size ∧ Below W.heap.size W w' ∧ Hold (OrdQ p c L :: G) w' := by
      rintro G w ⟨k, kh⟩
      refine (HC.out.2.2.2.2.2 w k.2.2.2.2.2).mono ?_
      rintro e w' ⟨p, c, he, hp, hl⟩
      obtain ⟨q0, q1, q2, q3, q4, q5⟩ := HS w w' k hp.2
      exact ⟨p, c, he, q0, q1, q2, q3, q4, q5, kh.cons hp.2 (OrdQ.all (ints_in hl (Nat.le_refl _)))⟩
    have cP : ∀ G w, ((w.cell? ⟨W.heap.size, 0, none⟩ = some (.string nm) ∧ w.cell? ⟨W.heap.size, 1, none⟩ = some (.slice pp pn pc) ∧ w.cell? ⟨W.heap.size, 2, none⟩ = some (.int .i64 rt) ∧ w.cell? ⟨W.heap.size, 3, none⟩ = some (.slice bp n bc) ∧ W.heap.size < w.heap.size ∧ Below W.heap.size W w) ∧ Hold G w) → Calls Try.prog 27 #[.agg #[.string nm, .slice pp pn pc, .int .i64 rt, .slice bp n bc]] w fun e w' => ∃ R vs, e = .returned (.slice (some ⟨R, 0, none⟩) n n) ∧ w'.cell? ⟨W.heap.size, 0, none⟩ = some (.string nm) ∧ w'.cell? ⟨W.heap.size, 1, none⟩ = some (.slice pp pn pc) ∧ w'.cell? ⟨W.heap.size, 2, none⟩ = some (.int .i64 rt) ∧ w'.cell? ⟨W.heap.size, 3, none⟩ = some (.slice bp n bc) ∧ W.heap.size < w'.heap.size ∧ Below W.heap.size W w' ∧ Hold (PredQ R n vs (fun t => ints (predUpto S n t)) :: G) w' := by
      rintro G w ⟨k, kh⟩
      refine (HC.out.2.2.2.2.1 w k.2.2.2.2.2).mono ?_
      rintro e w' ⟨R, vs, he, hp, hR, hl⟩
      obtain ⟨q0, q1, q2, q3, q4, q5⟩ := HS w w' k hp.2
      exact ⟨R, vs, he, q0, q1, q2, q3, q4, q5, kh.cons hp.2 (PredQ.all hl)⟩
    have cR : ∀ G w, ((w.cell? ⟨W.heap.size, 0, none⟩ = some (.string nm) ∧ w.cell? ⟨W.heap.size, 1, none⟩ = some (.slice pp pn pc) ∧ w.cell? ⟨W.heap.size, 2, none⟩ = some (.int .i64 rt) ∧ w.cell? ⟨W.heap.size, 3, none⟩ = some (.slice bp n bc) ∧ W.heap.size < w.heap.size ∧ Below W.heap.size W w) ∧ Hold G w) → Calls Try.prog 25 #[.agg #[.string nm, .slice pp pn pc, .int .i64 rt, .slice bp n bc]] w fun e w' => ∃ R, e = .returned (.slice (some ⟨R, 0, none⟩) n n) ∧ w'.cell? ⟨W.heap.size, 0, none⟩ = some (.string nm) ∧ w'.cell? ⟨W.heap.size, 1, none⟩ = some (.slice pp pn pc) ∧ w'.cell? ⟨W.heap.size, 2, none⟩ = some (.int .i64 rt) ∧ w'.cell? ⟨W.heap.size, 3, none⟩ = some (.slice bp n bc) ∧ W.heap.size < w'.heap.size ∧ Below W.heap.size W w' ∧ Hold (RchQ S n R :: G) w' := by
      rintro G w ⟨k, kh⟩
      refine (HC.out.2.2.1 w k.2.2.2.2.2).mono ?_
      rintro e w' ⟨R, he, hp, hR, hl⟩
      obtain ⟨q0, q1, q2, q3, q4, q5⟩ := HS w w' k hp.2
      exact ⟨R, he, q0, q1, q2, q3, q4, q5, kh.cons hp.2 (RchQ.all hl)⟩
    have cI : ∀ G w, ((w.cell? ⟨W.heap.size, 0, none⟩ = some (.string nm) ∧ w.cell? ⟨W.heap.size, 1, none⟩ = some (.slice pp pn pc) ∧ w.cell? ⟨W.heap.size, 2, none⟩ = some (.int .i64 rt) ∧ w.cell? ⟨W.heap.size, 3, none⟩ = some (.slice bp n bc) ∧ W.heap.size < w.heap.size ∧ Below W.heap.size W w) ∧ Hold G w) → Calls Try.prog 18 #[.agg #[.string nm, .slice pp pn pc, .int .i64 rt, .slice bp n bc]] w fun e w' => ∃ R, e = .returned (.slice (some ⟨R, 0, none⟩) n n) ∧ w'.cell? ⟨W.heap.size, 0, none⟩ = some (.string nm) ∧ w'.cell? ⟨W.heap.size, 1, none⟩ = some (.slice pp pn pc) ∧ w'.cell? ⟨W.heap.size, 2, none⟩ = some (.int .i64 rt) ∧ w'.cell? ⟨W.heap.size, 3, none⟩ = some (.slice bp n bc) ∧ W.heap.size < w'.heap.size ∧ Below W.heap.size W w' ∧ Hold (UpQ S n R :: G) w' := by
      rintro G w ⟨k, kh⟩
      refine (HC.out.2.1 w k.2.2.2.2.2).mono ?_
      rintro e w' ⟨R, he, hp, hR, hl⟩
      obtain ⟨q0, q1, q2, q3, q4, q5⟩ := HS w w' k hp.2
      exact ⟨R, he, q0, q1, q2, q3, q4, q5, kh.cons hp.2 (UpQ.all hl)⟩
    clear HS
    go_region_held3 (fun w' => w'.cell? ⟨W.heap.size, 0, none⟩ = some (.string nm) ∧ w'.cell? ⟨W.heap.size, 1, none⟩ = some (.slice pp pn pc) ∧ w'.cell? ⟨W.heap.size, 2, none⟩ = some (.int .i64 rt) ∧ w'.cell? ⟨W.heap.size, 3, none⟩ = some (.slice bp n bc) ∧ W.heap.size < w'.heap.size ∧ Below W.heap.size W w')
      (((try dsimp only); (repeat' apply And.intro) <;> (first | (with_reducible assumption) | (rw [World.cell?_drew]; with_reducible assumption) | (with_reducible apply below_drew; with_reducible assumption) | (simp <;> omega))))
      (first
        | ((with_reducible refine' (cO _ _ ?pre).mono ?_)
           case pre => (refine ⟨⟨?_, ?_, ?_, ?_, ?_, ?_⟩, ?_⟩ <;> (first | (with_reducible assumption) | (rw [World.cell?_drew]; with_reducible assumption) | (with_reducible apply below_drew; with_reducible assumption) | (with_reducible apply Hold.drew; with_reducible assumption) | (simp <;> omega) | omega))
           rintro e wo ⟨po, co, rfl, sa0, sa1, sa2, sa3, sa4, sa5, sah⟩)
        | ((with_reducible refine' (cP _ _ ?pre).mono ?_)
           case pre => (refine ⟨⟨?_, ?_, ?_, ?_, ?_, ?_⟩, ?_⟩ <;> (first | (with_reducible assumption) | (rw [World.cell?_drew]; with_reducible assumption) | (with_reducible apply below_drew; with_reducible assumption) | (with_reducible apply Hold.drew; with_reducible assumption) | (simp <;> omega) | omega))
           rintro e wp ⟨R1, vs, rfl, sb0, sb1, sb2, sb3, sb4, sb5, sbh⟩)
        | ((with_reducible refine' (cR _ _ ?pre).mono ?_)
           case pre => (refine ⟨⟨?_, ?_, ?_, ?_, ?_, ?_⟩, ?_⟩ <;> (first | (with_reducible assumption) | (rw [World.cell?_drew]; with_reducible assumption) | (with_reducible apply below_drew; with_reducible assumption) | (with_reducible apply Hold.drew; with_reducible assumption) | (simp <;> omega) | omega))
           rintro e wr ⟨R2, rfl, sc0, sc1, sc2, sc3, sc4, sc5, sch⟩)
        | ((with_reducible refine' (cI _ _ ?pre).mono ?_)
           case pre => (refine ⟨⟨?_, ?_, ?_, ?_, ?_, ?_⟩, ?_⟩ <;> (first | (with_reducible assumption) | (rw [World.cell?_drew]; with_reducible assumption) | (with_reducible apply below_drew; with_reducible assumption) | (with_reducible apply Hold.drew; with_reducible assumption) | (simp <;> omega) | omega))
           rintro e wi ⟨R4, rfl, sd0, sd1, sd2, sd3, sd4, sd5, sdh⟩))
    all_goals
      go_wp2_with fail
      go_meet
      exact ⟨po, co, R1, vs, R2, R4, rfl, rfl, rfl, rfl, sdh.get (fun u => Past W.heap.size W u ∧ Box W.heap.size [.string nm, .slice pp pn pc, .int .i64 rt, .slice bp n bc] u) (.tail _ (.tail _ (.tail _ (.tail _ (.head _))))), sdh.get (OrdQ po co L) (.tail _ (.tail _ (.tail _ (.head _)))), sdh.get (PredQ R1 n vs _) (.tail _ (.tail _ (.head _))), sdh.get (RchQ S n R2) (.tail _ (.head _)), sdh.get (UpQ S n R4) (.head _)⟩
  case rest =>
    obtain ⟨po, co, R1, vs, R2, R4, rfl, rfl, rfl, rfl, ⟨hp, hbox⟩, hord, hll, hr, hup⟩ := hcut
    generalize wc = w3 at *
    have hLn := nodup_lt n L HO.out.nd HO.out.lt
    have HK := Lib.hid (And.intro hp (And.intro hbox (And.intro hord (And.intro hll (And.intro hr hup)))))
    clear hp hbox hord hll hr hup
    have hmk := run_make_row' (P := Try.prog) 22 3 _ _ Try.underlying22 infoInt rfl .i64 .i64 n (by omega) (by omega)
    have r0 := World.rowIs_made w3 (.int .i64 0) n 3
    have hb4 : Below w3.heap.size w3 (w3.alloc (.cells (madeCells #[.int .i64 0] n) 3)) := (Below.refl _ _).alloc (Nat.le_refl _) _
    have HR := Lib.hid (And.intro r0 hb4)
    clear r0 hb4
    go_wp2_with fail
    clear hmk
    go_loopw [50] (fun t wr => ∃ i : Nat, i ≤ L.length ∧ t = .int .i64 i ∧ Below w3.heap.size w3 wr ∧ wr.rowIs w3.heap.size 3 n (fun b => .int .i64 ((idN L i b : Nat) : Int))) (fun t _ => L.length - (intOf t).toNat)
    case atStart => exact ⟨0, Nat.zero_le _, rfl, HR.out.2, HR.out.1.congr (fun j _ => by rw [idN_0]; rfl)⟩
    case round =>
      obtain ⟨i, hile, rfl, hb, hra⟩ := hrel
      by_cases hlt : i < L.length
      · obtain ⟨a, rfl, ha, hc⟩ := int_row (OrdQ.all HK.out.2.2.1 wr hb) i (by rw [ints_len]; exact hlt)
        rw [ints_get L i hlt] at hc
        have hx := HO.out.lt _ (List.getElem_mem hlt)
        have hst := fun b => idN_step HO.out.nd hlt b
        obtain ⟨x, ex⟩ : ∃ x, L[i] = x := ⟨_, rfl⟩
        rw [ex] at hc hx
        simp only [ex] at hst
        have ca := hra.cell hx
        have fa := hra.frozen x
        have hnx : decide (n ≤ x) = false := by simp; omega
        have HH := Lib.hid (And.intro hb (And.intro hra hst))
        clear hb hra hst ex
        go_wp2_with fail
        have hset := (HH.out.2.1.set x (.int .i64 (i : Int))).congr (g := fun b => .int .i64 ((idN L (i + 1) b : Nat) : Int)) (fun j hj => by
          simp only [HH.out.2.2 j]
          by_cases e : j = x
          · rw [if_pos e, if_pos e]
          · rw [if_neg e, if_neg e])
        refine ⟨⟨i + 1, by omega, by go_num, ?_, hset⟩, by simp [intOf]; omega⟩
        exact HH.out.1.setCell (show w3.heap.size ≤ (⟨w3.heap.size, x, none⟩ : Addr).block from Nat.le_refl _) _
      · obtain rfl : i = L.length := by omega
        have hpp := HK.out.1.trans ⟨HK.out.1.size, hb.mono HK.out.1.size⟩
        obtain ⟨RA, eRA⟩ : ∃ RA, w3.heap.size = RA := ⟨_, rfl⟩
        have HL := Lib.hid (And.intro hra (And.intro (HK.out.2.2.2.1.later hb) (And.intro (HK.out.2.2.2.2.1.all _ hb) (And.intro (HK.out.2.2.2.2.2.later hb) (And.intro hpp (HK.out.2.1.later hb))))))
        simp only [eRA] at HL ⊢
        clear hb hra hpp eRA HR HK
        generalize wr = wl at *
        go_wp2_with fail
        go_loopw [69] (fun t wr => ∃ b : Nat, b ≤ n ∧ t = .int .i64 b ∧ Below wl.heap.size wl wr) (fun t _ => n - (intOf t).toNat)
        case atStart => exact ⟨0, Nat.zero_le _, rfl, Below.refl _ _⟩
        case round =>
          obtain ⟨b, hbn, rfl, hbw⟩ := hrel
          by_cases hltb : b < n
          · have cr := HL.out.2.2.1.cell hbw hltb
            have cu := HL.out.2.2.2.1.cell hbw hltb
            by_cases hrb : Rch S b ∧ b ≠ 0
            · obtain ⟨u, hu⟩ := IsUp.ex (show 0 < n by omega) HN.out hrb.1 hrb.2
              rw [upI_some hu] at cu
              rw [rchB_iff.2 hrb.1] at cr
              have hb0 : ((b : Int) == 0) = false := by simp; exact hrb.2
              have hb00 : decide ((b : Int) = 0) = false := by simp; exact hrb.2
              have hun : u < n := rch_lt (show 0 < n by omega) HN.out hu.2.1.1
              have hid := idN_ahead HO.out.nd (hu.2.1.ahead HO.out (show 0 < n by omega) hu.1)
              have hcu := (rowIs_kept HL.out.1 (below_grown hbw) (by simp)).cell hun
              have hcb := (rowIs_kept HL.out.1 (below_grown hbw) (by simp)).cell hltb
              have hiu := idN_le L L.length u
              have hib := idN_le L L.length b
              have eiu : ∃ iu, idN L L.length u = iu := ⟨_, rfl⟩
              obtain ⟨iu, eiu⟩ := eiu
              obtain ⟨ib, eib⟩ : ∃ ib, idN L L.length b = ib := ⟨_, rfl⟩
              have HI := Lib.hid (And.intro eiu eib)
              rw [eiu] at hid hcu hiu
              rw [eib] at hid hcb hib
              clear eiu eib
              have hmk : ∀ w, Below wl.heap.size wl w → (w.cell? ⟨W.heap.size, 0, none⟩ = some (.string nm) ∧ w.cell? ⟨W.heap.size, 1, none⟩ = some (.slice pp pn pc) ∧ w.cell? ⟨W.heap.size, 2, none⟩ = some (.int .i64 rt) ∧ w.cell? ⟨W.heap.size, 3, none⟩ = some (.slice bp n bc) ∧ w.cell? ⟨RA, u, none⟩ = some (.int .i64 (iu : Nat)) ∧ w.cell? ⟨RA, b, none⟩ = some (.int .i64 (ib : Nat)) ∧ Below wl.heap.size wl w) := fun w h => by
                have hcu := (rowIs_kept HL.out.1 (below_grown h) (by simp)).cell hun
                have hcb := (rowIs_kept HL.out.1 (below_grown h) (by simp)).cell hltb
                rw [HI.out.1] at hcu
                rw [HI.out.2] at hcb
                have h3 := HL.out.2.2.2.2.2.later h
                exact ⟨h3.get 0 _ rfl, h3.get 1 _ rfl, h3.get 2 _ rfl, h3.get 3 _ rfl, hcu, hcb, h⟩
              have hbW : ∀ w, Below wl.heap.size wl w → Below W.heap.size W w := fun w h => HL.out.2.2.2.2.1.2.trans (h.mono HL.out.2.2.2.2.1.size)
              have cD : ∀ (y : Nat) (r : Bool), dmI S n u y = r → ∀ w, (w.cell? ⟨W.heap.size, 0, none⟩ = some (.string nm) ∧ w.cell? ⟨W.heap.size, 1, none⟩ = some (.slice pp pn pc) ∧ w.cell? ⟨W.heap.size, 2, none⟩ = some (.int .i64 rt) ∧ w.cell? ⟨W.heap.size, 3, none⟩ = some (.slice bp n bc) ∧ w.cell? ⟨RA, u, none⟩ = some (.int .i64 (iu : Nat)) ∧ w.cell? ⟨RA, b, none⟩ = some (.int .i64 (ib : Nat)) ∧ Below wl.heap.size wl w) → Calls Try.prog 23 #[.agg #[.string nm, .slice pp pn pc, .int .i64 rt, .slice bp n bc], .int .i64 u, .int .i64 y] w fun e w' => e = .returned (.bool r) ∧ (w'.cell? ⟨W.heap.size, 0, none⟩ = some (.string nm) ∧ w'.cell? ⟨W.heap.size, 1, none⟩ = some (.slice pp pn pc) ∧ w'.cell? ⟨W.heap.size, 2, none⟩ = some (.int .i64 rt) ∧ w'.cell? ⟨W.heap.size, 3, none⟩ = some (.slice bp n bc) ∧ w'.cell? ⟨RA, u, none⟩ = some (.int .i64 (iu : Nat)) ∧ w'.cell? ⟨RA, b, none⟩ = some (.int .i64 (ib : Nat)) ∧ Below wl.heap.size wl w') ∧ Below w.heap.size w w' := by
                intro y r hr w hw
                have hb := hw.2.2.2.2.2.2
                refine (HC.out.2.2.2.1 u y w (hbW w hb)).mono ?_
                rintro e w' ⟨he, hp⟩
                rw [hr] at he
                exact ⟨he, hmk w' (hb.trans (hp.2.mono hb.size)), hp.2⟩
              have cub := cD b true ((dmI_nat hltb).2 hu.2.1)
              have cux : ∀ x, x < n → rchB S x = true → b ∈ S x → dmI S n u x = true := fun x hx hr hm => (dmI_nat hx).2 (hu.2.1.pred hu.1 (rchB_iff.1 hr) hm)
              have HMK := Lib.hid (And.intro hmk (And.intro cD (And.intro cux hbW)))
              have HBW := Lib.hid hbw
              have hd1 : decide ((u : Int) < 0) = false := by simp
              have hd2 : decide ((n : Int) ≤ (u : Int)) = false := by simp; omega
              have hd3 : decide (n ≤ u) = false := by simp; omega
              have hd4 : decide ((ib : Int) ≤ (iu : Int)) = false := by simp; omega
              have hd5 : decide (ib ≤ iu) = false := by simp; omega
              clear hmk hbW cD cux hrb hbw hiu hib hu HI
              go_upto_region 22 with fail
              clear cr cu
              go_cut [109] (fun s wx => s = .bool false ∧ Below wl.heap.size wl wx)
              case first =>
                obtain ⟨k0, k1, k2, k3, k4, k5, k6⟩ := HMK.out.1 wr HBW.out
                clear hcu hcb
                go_region_held3 (fun w' => w'.cell? ⟨W.heap.size, 0, none⟩ = some (.string nm) ∧ w'.cell? ⟨W.heap.size, 1, none⟩ = some (.slice pp pn pc) ∧ w'.cell? ⟨W.heap.size, 2, none⟩ = some (.int .i64 rt) ∧ w'.cell? ⟨W.heap.size, 3, none⟩ = some (.slice bp n bc) ∧ w'.cell? ⟨RA, u, none⟩ = some (.int .i64 (iu : Nat)) ∧ w'.cell? ⟨RA, b, none⟩ = some (.int .i64 (ib : Nat)) ∧ Below wl.heap.size wl w')
                  (((try dsimp only); (repeat' apply And.intro) <;> (first | (with_reducible assumption) | (rw [World.cell?_drew]; with_reducible assumption) | (with_reducible apply below_drew; with_reducible assumption) | (simp <;> omega))))
                  (((with_reducible refine' (cub _ ?pre).mono ?_)
                    case pre => (refine ⟨?_, ?_, ?_, ?_, ?_, ?_, ?_⟩ <;> (first | (with_reducible assumption) | (rw [World.cell?_drew]; with_reducible assumption) | (with_reducible apply below_drew; with_reducible assumption) | (simp <;> omega) | omega))
                    rintro e wsa ⟨rfl, ⟨sa0, sa1, sa2, sa3, sa4, sa5, sa6⟩, sa7⟩))
                all_goals
                  go_wp2_with fail
                  go_meet
                  exact ⟨rfl, sa6⟩
              case rest =>
                obtain ⟨rfl, hb5⟩ := hcut
                generalize wc = w5 at *
                have hll := HL.out.2.1.later hb5
                have cp := hll.row.cell hltb
                obtain ⟨q, cc, hq⟩ := hll.slice hltb
                have hown := hll.own b hltb
                rw [hq] at cp hown
                have hM := fun x => (mem_predUpto S n b x)
                obtain ⟨M, eM⟩ : ∃ M, predUpto S n b = M := ⟨_, rfl⟩
                have hMl : M.length ≤ n := by rw [← eM]; exact predUpto_le S n b
                simp only [eM, ints_len] at cp hown hM
                rw [← ints_len M] at hown
                have HX := Lib.hid (And.intro hown (And.intro hM hb5))
                clear hll hq hown hM hb5 eM hcu hcb cub HBW hb0 hb00 hd1 hd2 hd3 hd4 hd5 hid
                go_wp2_with fail
                clear cp
                go_loopw [115] (fun t wr2 => ∃ j : Nat, j ≤ M.length ∧ t = .int .i64 j ∧ Below w5.heap.size w5 wr2) (fun t _ => M.length - (intOf t).toNat)
                case atStart => exact ⟨0, Nat.zero_le _, rfl, Below.refl _ _⟩
                case round =>
                  obtain ⟨j, hjle, rfl, hbj⟩ := hrel
                  have hownj := ownsRow_below HX.out.1 hbj
                  have hbl : Below wl.heap.size wl wr := HX.out.2.2.trans (hbj.mono HX.out.2.2.size)
                  by_cases hltj : j < M.length
                  · obtain ⟨a, rfl, ha, hc⟩ := own_int hownj hltj
                    have hxm := (HX.out.2.1 _).1 (List.getElem_mem hltj)
                    obtain ⟨x, ex⟩ : ∃ x, M[j] = x := ⟨_, rfl⟩
                    rw [ex] at hc hxm
                    have hxn := hxm.1
                    have crx := HL.out.2.2.1.cell hbl hxn
                    have hux := HMK.out.2.2.1 x hxn
                    obtain ⟨rx, erx⟩ : ∃ rx, rchB S x = rx := ⟨_, rfl⟩
                    rw [erx] at crx hux
                    have HJ := Lib.hid (And.intro hbj (And.intro hxm hux))
                    have HBL := Lib.hid hbl
                    have hd1 : decide ((0 : Int) ≤ (x : Int)) = true := by simp
                    have hd2 : decide ((x : Int) < (n : Int)) = true := by simp; exact hxn
                    clear hbj hxm hux ex erx hownj hbl
                    cases rx
                    case false =>
                      go_wp2_with fail
                      exact ⟨⟨j + 1, by omega, by go_num, HJ.out.1⟩, by simp [intOf]; omega⟩
                    case true =>
                      have cux := HMK.out.2.1 x true (HJ.out.2.2 (by first | rfl | trivial) HJ.out.2.1.2)
                      have hM0 := HMK.out.1 wr HBL.out
                      obtain ⟨k0, k1, k2, k3, k4, k5, k6⟩ := hM0
                      clear k4 k5 k6
                      go_wp2_with fail
                      refine' (cux wr (HMK.out.1 _ HBL.out)).mono ?_
                      rintro e wsa ⟨rfl, ⟨sa0, sa1, sa2, sa3, sa4, sa5, sa6⟩, sa7⟩
                      have HJB := Lib.hid (HJ.out.1.trans (sa7.mono HJ.out.1.size))
                      clear k0 k1 k2 k3 sa0 sa1 sa2 sa3 sa4 sa5 sa6 sa7 cux
                      go_wp2_with fail
                      exact ⟨⟨j + 1, by omega, by go_num, HJB.out⟩, by simp [intOf]; omega⟩
                  · obtain rfl : j = M.length := by omega
                    have HBL := Lib.hid hbl
                    clear hbl hbj hownj
                    go_wp2_with fail
                    exact ⟨⟨b + 1, by omega, by go_num, HBL.out⟩, by simp [intOf]; omega⟩
            · have hu1 : upI S b = -1 := upI_none fun u hu => hrb ⟨hu.2.1.2.1, fun e => by subst e; exact hu.not_zero⟩
              rw [hu1] at cu
              have HBW := Lib.hid hbw
              by_cases hr : Rch S b
              · obtain rfl : b = 0 := Classical.byContradiction fun e => hrb ⟨hr, e⟩
                rw [rchB_iff.2 hr] at cr
                clear hbw hrb hr hu1
                go_wp2_with fail
                exact ⟨⟨0 + 1, by omega, by go_num, HBW.out⟩, by simp [intOf]; omega⟩
              · rw [rchB_not.2 hr] at cr
                clear hbw hrb hr hu1
                go_wp2_with fail
                exact ⟨⟨b + 1, by omega, by go_num, HBW.out⟩, by simp [intOf]; omega⟩
          · obtain rfl : b = n := by omega
            have HFI := Lib.hid (HL.out.2.2.2.2.1.2.trans (hbw.mono HL.out.2.2.2.2.1.size))
            clear hbw
            go_wp2_with fail
            go_ret
            exact ⟨rfl, HFI.out⟩
end Go.Proofs.Ytphdhndljgihmaa
