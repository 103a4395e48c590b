/- The law DomEdges: its walk. -/
import Derived.Test.YtphdhndljgihmaaDPerm
import Derived.Test.YtphdhndljgihmaaFront
import Derived.Test.YtphdhndljgihmaaEdgA
namespace Go.Proofs.Ytphdhndljgihmaa
open Go.RowKit Go.Maps
set_option linter.unusedVariables false
set_option linter.unusedSimpArgs false

theorem zeroI (w : World) : (zeroValue 3).run Try.prog w = .ok (.int .i64 0) w := by kernel_rfl
theorem wfNat (n : Nat) (h : n < 4611686018427387904) : (Lit.int .i64 (n : Int)).wf = true := by simp [Lit.wf, IntKind.min, IntKind.max, IntKind.signed, IntKind.bits]; omega
theorem infoMapI : (Try.prog.info? 42).map (fun i => (i.zero, i.size, i.bytes)) = some (some (.map none), 1, 8) := by kernel_rfl
def RchQ (S : Nat → List Nat) (n R : Nat) (w : World) : Prop := w.rowIs R 4 n (fun i => .bool (rchB S i))
theorem RchQ.all {S : Nat → List Nat} {n R : Nat} {w : World} (h : RchQ S n R w) : ∀ u, Below w.heap.size w u → RchQ S n R u := fun u hu => rowIs_kept h (below_grown hu) (by simp)
theorem RchQ.cell {S : Nat → List Nat} {n R : Nat} {w u : World} (h : RchQ S n R w) (hb : Below w.heap.size w u) {i : Nat} (hi : i < n) : u.cell? ⟨R, i, none⟩ = some (.bool (rchB S i)) := World.rowIs.cell (h.all u hb) hi
/-- Idom's, Frontier's, Preds' and Reach's answers. -/
def FourE (W : World) (cs : List Value) (S : Nat → List Nat) (n : Nat) (s4 s5 s6 s7 : Value) (w : World) : Prop :=
  ∃ R4 RF vf R1 vs R2, s4 = .slice (some ⟨R4, 0, none⟩) n n ∧ s5 = .slice (some ⟨RF, 0, none⟩) n n ∧ s6 = .slice (some ⟨R1, 0, none⟩) n n ∧ s7 = .slice (some ⟨R2, 0, none⟩) n n ∧ (Past W.heap.size W w ∧ Box W.heap.size cs w) ∧ UpQ S n R4 w ∧ PredQ RF n vf (fun t => ints (frUpto S n t)) w ∧ PredQ R1 n vs (fun t => ints (predUpto S n t)) w ∧ RchQ S n R2 w
set_option maxRecDepth 100000 in
set_option maxHeartbeats 16000000 in
theorem edges_walk (W : World) (f : LFn) (hf : FnIn W.heap.size W f) (hs : FnSm f) (hbs : f.bs.length ≤ 1048576) :
    Calls Try.prog 7 #[.agg (fnC f).toArray] W fun e w' => e = .returned (.bool true) ∧ Below W.heap.size W w' := by
  have cl := lives_any
  have hP := (Past.refl (Nat.le_refl W.heap.size)).alloc (.cells (fnC f).toArray 25)
  have A1 : Box W.heap.size (fnC f) (W.alloc (.cells (fnC f).toArray 25)) := Box.new W rfl _ _
  have cF : ∀ w, Below W.heap.size W w → FnIn w.heap.size w f := fun w h => past_lasts lasts_Fn hf ⟨Nat.le_refl _, h⟩
  have HN : Hid (∀ b, ∀ t ∈ succP (fnD f).bs b, t < f.bs.length) := Lib.hid (fun b t ht => by
    have := succP_lt _ _ t ht
    simpa [fnD] using this)
  obtain ⟨L, hL⟩ := order_ex HN.out
  have hO := hL.ordered HN.out
  have cLo : ∀ w, Below W.heap.size W w → Calls Try.prog 11 #[.agg (fnC f).toArray] w (SomeBool w) := fun w h => long_any f w (cF w h) hbs
  have cId : ∀ w, Below W.heap.size W w → Calls Try.prog 18 #[.agg (fnC f).toArray] w (OwnUp (succP (fnD f).bs) f.bs.length w) := fun w h => Idom_own f w (cF w h) hs hbs
  have cFr : ∀ w, Below W.heap.size W w → Calls Try.prog 14 #[.agg (fnC f).toArray] w (OwnLL f.bs.length (fun t => ints (frUpto (succP (fnD f).bs) f.bs.length t)) w) := fun w h => Frontier_own f w (cF w h) hs hbs
  have cPr : ∀ w, Below W.heap.size W w → Calls Try.prog 27 #[.agg (fnC f).toArray] w (OwnLL f.bs.length (fun t => ints (predUpto (succP (fnD f).bs) f.bs.length t)) w) := fun w h => Preds_own f w (cF w h) hs hbs
  have cRe : ∀ w, Below W.heap.size W w → Calls Try.prog 25 #[.agg (fnC f).toArray] w (OwnBools f.bs.length (rchB (succP (fnD f).bs)) w) := fun w h => by
    refine (Reach_own f w (cF w h) hs hbs L hL).mono ?_
    rintro e w' ⟨R, h1, h2, h3, h4⟩
    obtain ⟨c, e1, e2, e3⟩ := h4
    refine ⟨R, h1, h2, h3, c, e1, e2, fun i hi => ?_⟩
    rw [e3 i hi]
    have : decide (i ∈ L) = rchB (succP (fnD f).bs) i := by
      rw [Bool.eq_iff_iff, decide_eq_true_eq, rchB_iff]
      exact hO.rch i (by omega)
    simp only [this]
  obtain ⟨S, eS⟩ : ∃ S, succP (fnD f).bs = S := ⟨_, rfl⟩
  simp only [eS] at cId cRe cFr cPr HN
  obtain ⟨nm, pp, pn, pc, ps, rt, bp, bn, bc, bs⟩ := f
  obtain rfl : bn = bs.length := hf.2.1
  show Calls Try.prog 7 #[.agg #[.string nm, .slice pp pn pc, .int .i64 rt, .slice bp bs.length bc]] W _
  have hfc : fnC ⟨nm, pp, pn, pc, ps, rt, bp, bs.length, bc, bs⟩ = [.string nm, .slice pp pn pc, .int .i64 rt, .slice bp bs.length bc] := rfl
  rw [hfc] at A1 hP
  simp only [hfc] at cLo cId cRe cFr cPr
  obtain ⟨n, en⟩ : ∃ n, bs.length = n := ⟨_, rfl⟩
  simp only [en] at cLo cId cRe cFr cPr A1 hP hbs HN ⊢
  have HC := Lib.hid (And.intro cLo (And.intro cId (And.intro cRe (And.intro cFr cPr))))
  have HB := Lib.hid (And.intro hP A1)
  clear cLo cId cRe cFr cPr hP A1 cF hfc hf hs eS en hO hL L
  go_enter Try.func7, Try.ntmps7
  go_wp2_with fail
  refine (cl _).mono ?_
  rintro e w1 ⟨rfl, hb1⟩
  have H1 := Lib.hid (And.intro (HB.out.1.trans ⟨HB.out.1.size, hb1.mono HB.out.1.size⟩) (HB.out.2.later hb1))
  clear hb1 cl HB
  have b0 := H1.out.2.get 0 _ rfl
  have b1 := H1.out.2.get 1 _ rfl
  have b2 := H1.out.2.get 2 _ rfl
  have b3 := H1.out.2.get 3 _ rfl
  have c1 := HC.out.1 w1 H1.out.1.2
  go_wp2_with fail
  refine c1.mono ?_
  rintro e w2 ⟨bl, rfl, hb2⟩
  have H2 := Lib.hid (And.intro (H1.out.1.trans ⟨H1.out.1.size, hb2.mono H1.out.1.size⟩) (H1.out.2.later hb2))
  clear hb2 c1 H1 b0 b1 b2 b3
  cases bl
  case true =>
    go_wp2
    go_ret
    exact ⟨rfl, H2.out.1.2⟩
  have b3 := H2.out.2.get 3 _ rfl
  go_upto_region 6 with fail
  clear b3
  go_cut [4, 5, 6, 7] (fun s4 s5 s6 s7 wx => FourE W [.string nm, .slice pp pn pc, .int .i64 rt, .slice bp n bc] S n s4 s5 s6 s7 wx)
  case first =>
    have HS : ∀ w w' : World, (w.cell? ⟨W.heap.size, 0, none⟩ = some (.string nm) ∧ w.cell? ⟨W.heap.size, 1, none⟩ = some (.slice pp pn pc) ∧ w.cell? ⟨W.heap.size, 2, none⟩ = some (.int .i64 rt) ∧ w.cell? ⟨W.heap.size, 3, none⟩ = some (.slice bp n bc) ∧ W.heap.size < w.heap.size ∧ Below W.heap.size W w) → Below w.heap.size w w' → (w'.cell? ⟨W.heap.size, 0, none⟩ = some (.string nm) ∧ w'.cell? ⟨W.heap.size, 1, none⟩ = some (.slice pp pn pc) ∧ w'.cell? ⟨W.heap.size, 2, none⟩ = some (.int .i64 rt) ∧ w'.cell? ⟨W.heap.size, 3, none⟩ = some (.slice bp n bc) ∧ W.heap.size < w'.heap.size ∧ Below W.heap.size W w') := by
      rintro w w' ⟨q0, q1, q2, q3, q4, q5⟩ hb
      exact ⟨(hb.cell (p := ⟨W.heap.size, 0, none⟩) q4).trans q0, (hb.cell (p := ⟨W.heap.size, 1, none⟩) q4).trans q1, (hb.cell (p := ⟨W.heap.size, 2, none⟩) q4).trans q2, (hb.cell (p := ⟨W.heap.size, 3, none⟩) q4).trans q3, Nat.lt_of_lt_of_le q4 hb.size, q5.trans (hb.mono (Nat.le_of_lt q4))⟩
    have hS3 : w2.cell? ⟨W.heap.size, 0, none⟩ = some (.string nm) ∧ w2.cell? ⟨W.heap.size, 1, none⟩ = some (.slice pp pn pc) ∧ w2.cell? ⟨W.heap.size, 2, none⟩ = some (.int .i64 rt) ∧ w2.cell? ⟨W.heap.size, 3, none⟩ = some (.slice bp n bc) ∧ W.heap.size < w2.heap.size ∧ Below W.heap.size W w2 := ⟨H2.out.2.get 0 _ rfl, H2.out.2.get 1 _ rfl, H2.out.2.get 2 _ rfl, H2.out.2.get 3 _ rfl, H2.out.2.1, H2.out.1.2⟩
    obtain ⟨k0, k1, k2, k3, k4, k5⟩ := hS3
    have kh : Hold [(fun u => Past W.heap.size W u ∧ Box W.heap.size [.string nm, .slice pp pn pc, .int .i64 rt, .slice bp n bc] u)] w2 := Hold.one (fun u hu => ⟨H2.out.1.trans ⟨H2.out.1.size, hu.mono H2.out.1.size⟩, H2.out.2.later hu⟩)
    have cI : ∀ G w, ((w.cell? ⟨W.heap.size, 0, none⟩ = some (.string nm) ∧ w.cell? ⟨W.heap.size, 1, none⟩ = some (.slice pp pn pc) ∧ w.cell? ⟨W.heap.size, 2, none⟩ = some (.int .i64 rt) ∧ w.cell? ⟨W.heap.size, 3, none⟩ = some (.slice bp n bc) ∧ W.heap.size < w.heap.size ∧ Below W.heap.size W w) ∧ Hold G w) → Calls Try.prog 18 #[.agg #[.string nm, .slice pp pn pc, .int .i64 rt, .slice bp n bc]] w fun e w' => ∃ R, e = .returned (.slice (some ⟨R, 0, none⟩) n n) ∧ w'.cell? ⟨W.heap.size, 0, none⟩ = some (.string nm) ∧ w'.cell? ⟨W.heap.size, 1, none⟩ = some (.slice pp pn pc) ∧ w'.cell? ⟨W.heap.size, 2, none⟩ = some (.int .i64 rt) ∧ w'.cell? ⟨W.heap.size, 3, none⟩ = some (.slice bp n bc) ∧ W.heap.size < w'.heap.size ∧ Below W.heap.size W w' ∧ Hold (UpQ S n R :: G) w' := by
      rintro G w ⟨k, kh⟩
      refine (HC.out.2.1 w k.2.2.2.2.2).mono ?_
      rintro e w' ⟨R, he, hp, hR, hl⟩
      obtain ⟨q0, q1, q2, q3, q4, q5⟩ := HS w w' k hp.2
      exact ⟨R, he, q0, q1, q2, q3, q4, q5, kh.cons hp.2 (UpQ.all hl)⟩
    have cF : ∀ G w, ((w.cell? ⟨W.heap.size, 0, none⟩ = some (.string nm) ∧ w.cell? ⟨W.heap.size, 1, none⟩ = some (.slice pp pn pc) ∧ w.cell? ⟨W.heap.size, 2, none⟩ = some (.int .i64 rt) ∧ w.cell? ⟨W.heap.size, 3, none⟩ = some (.slice bp n bc) ∧ W.heap.size < w.heap.size ∧ Below W.heap.size W w) ∧ Hold G w) → Calls Try.prog 14 #[.agg #[.string nm, .slice pp pn pc, .int .i64 rt, .slice bp n bc]] w fun e w' => ∃ R vs, e = .returned (.slice (some ⟨R, 0, none⟩) n n) ∧ w'.cell? ⟨W.heap.size, 0, none⟩ = some (.string nm) ∧ w'.cell? ⟨W.heap.size, 1, none⟩ = some (.slice pp pn pc) ∧ w'.cell? ⟨W.heap.size, 2, none⟩ = some (.int .i64 rt) ∧ w'.cell? ⟨W.heap.size, 3, none⟩ = some (.slice bp n bc) ∧ W.heap.size < w'.heap.size ∧ Below W.heap.size W w' ∧ Hold (PredQ R n vs (fun t => ints (frUpto S n t)) :: G) w' := by
      rintro G w ⟨k, kh⟩
      refine (HC.out.2.2.2.1 w k.2.2.2.2.2).mono ?_
      rintro e w' ⟨R, vs, he, hp, hR, hl⟩
      obtain ⟨q0, q1, q2, q3, q4, q5⟩ := HS w w' k hp.2
      exact ⟨R, vs, he, q0, q1, q2, q3, q4, q5, kh.cons hp.2 (PredQ.all hl)⟩
    have cP : ∀ G w, ((w.cell? ⟨W.heap.size, 0, none⟩ = some (.string nm) ∧ w.cell? ⟨W.heap.size, 1, none⟩ = some (.slice pp pn pc) ∧ w.cell? ⟨W.heap.size, 2, none⟩ = some (.int .i64 rt) ∧ w.cell? ⟨W.heap.size, 3, none⟩ = some (.slice bp n bc) ∧ W.heap.size < w.heap.size ∧ Below W.heap.size W w) ∧ Hold G w) → Calls Try.prog 27 #[.agg #[.string nm, .slice pp pn pc, .int .i64 rt, .slice bp n bc]] w fun e w' => ∃ R vs, e = .returned (.slice (some ⟨R, 0, none⟩) n n) ∧ w'.cell? ⟨W.heap.size, 0, none⟩ = some (.string nm) ∧ w'.cell? ⟨W.heap.size, 1, none⟩ = some (.slice pp pn pc) ∧ w'.cell? ⟨W.heap.size, 2, none⟩ = some (.int .i64 rt) ∧ w'.cell? ⟨W.heap.size, 3, none⟩ = some (.slice bp n bc) ∧ W.heap.size < w'.heap.size ∧ Below W.heap.size W w' ∧ Hold (PredQ R n vs (fun t => ints (predUpto S n t)) :: G) w' := by
      rintro G w ⟨k, kh⟩
      refine (HC.out.2.2.2.2 w k.2.2.2.2.2).mono ?_
      rintro e w' ⟨R, vs, he, hp, hR, hl⟩
      obtain ⟨q0, q1, q2, q3, q4, q5⟩ := HS w w' k hp.2
      exact ⟨R, vs, he, q0, q1, q2, q3, q4, q5, kh.cons hp.2 (PredQ.all hl)⟩
    have cR : ∀ G w, ((w.cell? ⟨W.heap.size, 0, none⟩ = some (.string nm) ∧ w.cell? ⟨W.heap.size, 1, none⟩ = some (.slice pp pn pc) ∧ w.cell? ⟨W.heap.size, 2, none⟩ = some (.int .i64 rt) ∧ w.cell? ⟨W.heap.size, 3, none⟩ = some (.slice bp n bc) ∧ W.heap.size < w.heap.size ∧ Below W.heap.size W w) ∧ Hold G w) → Calls Try.prog 25 #[.agg #[.string nm, .slice pp pn pc, .int .i64 rt, .slice bp n bc]] w fun e w' => ∃ R, e = .returned (.slice (some ⟨R, 0, none⟩) n n) ∧ w'.cell? ⟨W.heap.size, 0, none⟩ = some (.string nm) ∧ w'.cell? ⟨W.heap.size, 1, none⟩ = some (.slice pp pn pc) ∧ w'.cell? ⟨W.heap.size, 2, none⟩ = some (.int .i64 rt) ∧ w'.cell? ⟨W.heap.size, 3, none⟩ = some (.slice bp n bc) ∧ W.heap.size < w'.heap.size ∧ Below W.heap.size W w' ∧ Hold (RchQ S n R :: G) w' := by
      rintro G w ⟨k, kh⟩
      refine (HC.out.2.2.1 w k.2.2.2.2.2).mono ?_
      rintro e w' ⟨R, he, hp, hR, hl⟩
      obtain ⟨q0, q1, q2, q3, q4, q5⟩ := HS w w' k hp.2
      exact ⟨R, he, q0, q1, q2, q3, q4, q5, kh.cons hp.2 (RchQ.all hl)⟩
    clear HS
    go_region_held3 (fun w' => w'.cell? ⟨W.heap.size, 0, none⟩ = some (.string nm) ∧ w'.cell? ⟨W.heap.size, 1, none⟩ = some (.slice pp pn pc) ∧ w'.cell? ⟨W.heap.size, 2, none⟩ = some (.int .i64 rt) ∧ w'.cell? ⟨W.heap.size, 3, none⟩ = some (.slice bp n bc) ∧ W.heap.size < w'.heap.size ∧ Below W.heap.size W w')
      (((try dsimp only); (repeat' apply And.intro) <;> (first | (with_reducible assumption) | (rw [World.cell?_drew]; with_reducible assumption) | (with_reducible apply below_drew; with_reducible assumption) | (simp <;> omega))))
      (first
        | ((with_reducible refine' (cI _ _ ?pre).mono ?_)
           case pre => (refine ⟨⟨?_, ?_, ?_, ?_, ?_, ?_⟩, ?_⟩ <;> (first | (with_reducible assumption) | (rw [World.cell?_drew]; with_reducible assumption) | (with_reducible apply below_drew; with_reducible assumption) | (with_reducible apply Hold.drew; with_reducible assumption) | (simp <;> omega) | omega))
           rintro e wi ⟨R4, rfl, sa0, sa1, sa2, sa3, sa4, sa5, sah⟩)
        | ((with_reducible refine' (cF _ _ ?pre).mono ?_)
           case pre => (refine ⟨⟨?_, ?_, ?_, ?_, ?_, ?_⟩, ?_⟩ <;> (first | (with_reducible assumption) | (rw [World.cell?_drew]; with_reducible assumption) | (with_reducible apply below_drew; with_reducible assumption) | (with_reducible apply Hold.drew; with_reducible assumption) | (simp <;> omega) | omega))
           rintro e wf ⟨RF, vf, rfl, sb0, sb1, sb2, sb3, sb4, sb5, sbh⟩)
        | ((with_reducible refine' (cP _ _ ?pre).mono ?_)
           case pre => (refine ⟨⟨?_, ?_, ?_, ?_, ?_, ?_⟩, ?_⟩ <;> (first | (with_reducible assumption) | (rw [World.cell?_drew]; with_reducible assumption) | (with_reducible apply below_drew; with_reducible assumption) | (with_reducible apply Hold.drew; with_reducible assumption) | (simp <;> omega) | omega))
           rintro e wp ⟨R1, vs, rfl, sc0, sc1, sc2, sc3, sc4, sc5, sch⟩)
        | ((with_reducible refine' (cR _ _ ?pre).mono ?_)
           case pre => (refine ⟨⟨?_, ?_, ?_, ?_, ?_, ?_⟩, ?_⟩ <;> (first | (with_reducible assumption) | (rw [World.cell?_drew]; with_reducible assumption) | (with_reducible apply below_drew; with_reducible assumption) | (with_reducible apply Hold.drew; with_reducible assumption) | (simp <;> omega) | omega))
           rintro e wr ⟨R2, rfl, sd0, sd1, sd2, sd3, sd4, sd5, sdh⟩))
    all_goals
      go_wp2_with fail
      go_meet
      exact ⟨R4, RF, vf, R1, vs, R2, rfl, rfl, rfl, rfl, sdh.get (fun u => Past W.heap.size W u ∧ Box W.heap.size [.string nm, .slice pp pn pc, .int .i64 rt, .slice bp n bc] u) (.tail _ (.tail _ (.tail _ (.tail _ (.head _))))), sdh.get (UpQ S n R4) (.tail _ (.tail _ (.tail _ (.head _)))), sdh.get (PredQ RF n vf _) (.tail _ (.tail _ (.head _))), sdh.get (PredQ R1 n vs _) (.tail _ (.head _)), sdh.get (RchQ S n R2) (.head _)⟩
  case rest =>
    obtain ⟨R4, RF, vf, R1, vs, R2, rfl, rfl, rfl, rfl, ⟨hp, hbox⟩, hup, hfr, hll, hr⟩ := hcut
    generalize wc = w3 at *
    have HK := Lib.hid (And.intro hp (And.intro hup (And.intro hfr (And.intro hll hr))))
    clear hp hbox hup hfr hll hr
    have hmk := run_make_row' (P := Try.prog) 41 42 _ _ Try.underlying41 infoMapI rfl .i64 .i64 n (by omega) (by omega)
    have hmm := @run_makeMap Try.prog
    have hb4 : Below w3.heap.size w3 (w3.alloc (.cells (madeCells #[.map none] n) 42)) := (Below.refl _ _).alloc (Nat.le_refl _) _
    have HR := Lib.hid (And.intro hb4 (WM.new w3 n (fun _ => 0) (fun _ => [])))
    clear hb4
    go_wp2_with fail
    clear hmk
    go_loopw [59] (fun t wr => ∃ (c : Nat) (Mk : Nat → Nat), c ≤ n ∧ t = .int .i64 c ∧ Below w3.heap.size w3 wr ∧ WM w3.heap.size n c Mk (fun _ => []) wr) (fun t _ => n - (intOf t).toNat)
    case atStart => exact ⟨0, _, Nat.zero_le _, rfl, HR.out.1, HR.out.2⟩
    case round =>
      obtain ⟨c, Mk, hcn, rfl, hb, hW⟩ := hrel
      by_cases hlt : c < n
      · have hA := (hW.later ((Below.refl _ _).alloc (Nat.le_refl _) (.map #[] 0))).row
        have k0 := hA.cell hlt
        have kf := hA.frozen c
        simp only [Nat.lt_irrefl, if_false] at k0
        have hbig : w3.heap.size < wr.heap.size := hW.row.lt
        have HW := Lib.hid (And.intro hb hW)
        clear hb hW hA
        go_wp2_with fail
        have hnew := HW.out.2.snoc hlt rfl
        rw [World.setCell_alloc_past _ _ _ _ hbig] at hnew
        refine ⟨⟨c + 1, _, by omega, by go_num, ?_, hnew⟩, by simp [intOf]; omega⟩
        exact (HW.out.1.setCell (show w3.heap.size ≤ (⟨w3.heap.size, c, none⟩ : Addr).block from Nat.le_refl _) _).alloc (by rw [setCell_size]; omega) _
      · obtain rfl : c = n := by omega
        have HW := Lib.hid (And.intro hb (hW.congr (Q' := fun x => frUpto S 0 x) (fun i _ => (frUpto_0 S i).symm)))
        clear hb hW HR hmm
        go_wp2_with fail
        go_loopw [10] (fun t wr => ∃ b : Nat, b ≤ c ∧ t = .int .i64 b ∧ Below w3.heap.size w3 wr ∧ WM w3.heap.size c c Mk (fun x => frUpto S b x) wr) (fun t _ => c - (intOf t).toNat)
        case atStart => exact ⟨0, Nat.zero_le _, rfl, HW.out.1, HW.out.2⟩
        case round =>
          obtain ⟨b, hbn, rfl, hb, hW⟩ := hrel
          by_cases hltb : b < c
          · have hll := HK.out.2.2.2.1.later hb
            have cp := hll.row.cell hltb
            obtain ⟨pq, pcc, hpq⟩ := hll.slice hltb
            rw [hpq] at cp
            obtain ⟨P, eP⟩ : ∃ P, predUpto S c b = P := ⟨_, rfl⟩
            have hown : ∀ w, Below w3.heap.size w3 w → w.ownsRow (R1 + 1) 3 1 (.slice pq (ints P).length pcc) (ints P).length ((ints P).flatMap intC) := fun w h => by
              have hown := (HK.out.2.2.2.1.later h).own b hltb
              rw [hpq] at hown
              simp only [eP] at hown
              exact hown
            have hP : ∀ i (hi : i < P.length), P[i] < c ∧ b ∈ S P[i] := by
              subst eP
              exact fun i hi => (mem_predUpto S c b _).1 (List.getElem_mem hi)
            have hPl : P.length ≤ c := by rw [← eP]; exact predUpto_le S c b
            have hPe : ∀ a, frRow S b (FrJ S b P) a = frUpto S (b + 1) a := by
              subst eP
              exact fun a => frRow_end (fun x _ hr => rch_lt (show 0 < c by omega) HN.out hr)
            simp only [eP, ints_len] at cp
            have HP := Lib.hid (And.intro hown (And.intro hP (And.intro hPe (And.intro hb hW))))
            clear hll hown hP hPe hb hW eP hpq
            go_wp2_with fail
            clear cp
            go_loopw [77] (fun t wr => ∃ j : Nat, j ≤ P.length ∧ t = .int .i64 j ∧ Below w3.heap.size w3 wr ∧ WM w3.heap.size c c Mk (fun a => frRow S b (FrJ S b (P.take j)) a) wr) (fun t _ => P.length - (intOf t).toNat)
            case atStart => exact ⟨0, Nat.zero_le _, rfl, HP.out.2.2.2.1, HP.out.2.2.2.2.congr (fun a _ => by rw [List.take_zero, frRow_congr (Q' := fun _ => False) (by simp [FrJ.nil]), frRow_none])⟩
            case round =>
              obtain ⟨j, hjl, rfl, hb2, hW2⟩ := hrel
              by_cases hltj : j < P.length
              · obtain ⟨pa, rfl, _, hc⟩ := own_int (HP.out.1 wr hb2) hltj
                have hd := HP.out.2.1 j hltj
                have htk : P.take (j + 1) = P.take j ++ [P[j]] := List.take_succ_eq_append_getElem hltj
                obtain ⟨d, ed⟩ : ∃ d, P[j] = d := ⟨_, rfl⟩
                rw [ed] at hc hd htk
                have hdc := hd.1
                have cr := HK.out.2.2.2.2.cell hb2 hdc
                have hd1 : decide ((d : Int) < 0) = false := by simp
                have hd2 : decide ((c : Int) ≤ (d : Int)) = false := by simp; omega
                have hd3 : decide (c ≤ d) = false := by simp; omega
                have HD1 := Lib.hid (And.intro hd (And.intro htk (And.intro hb2 hW2)))
                clear hd htk hb2 hW2 ed
                by_cases hrd : Rch S d
                · rw [rchB_iff.2 hrd] at cr
                  have HRD := Lib.hid hrd
                  clear hrd
                  go_wp2_with fail
                  clear hc cr hd1 hd2 hd3
                  go_loopw [13, 14] (fun tx ti wr => ∃ (x : Int) (i : Nat) (V : Nat → Prop), tx = .int .i64 x ∧ ti = .int .i64 i ∧ i ≤ c ∧ Edge S c b d i x V ∧ Below w3.heap.size w3 wr ∧ WM w3.heap.size c c Mk (fun a => frRow S b (fun y => FrJ S b (P.take j) y ∨ V y) a) wr) (fun _ ti _ => c - (intOf ti).toNat)
                  case atStart => exact ⟨d, 0, fun _ => False, rfl, rfl, Nat.zero_le _, Edge.start HRD.out HD1.out.1.2, HD1.out.2.2.1, HD1.out.2.2.2.congr (fun a _ => by rw [frRow_congr (Q' := fun y => FrJ S b (P.take j) y ∨ False) (by simp)])⟩
                  case round =>
                    obtain ⟨x, i, V, rfl, rfl, hic, hE, hb3, hW3⟩ := hrel
                    have hin : decide ((i : Int) ≤ (c : Int)) = true := by simp; exact hic
                    have cub := HK.out.2.1.cell hb3 hltb
                    by_cases hxu : x < 0 ∨ x = upI S b
                    · have hen := fun a => FrJ.edge (P := P.take j) (show 0 < c by omega) HN.out hE HRD.out HD1.out.1.2 hxu a
                      have HZ := Lib.hid (And.intro hb3 (hW3.congr (Q' := fun a => frRow S b (FrJ S b (P.take (j + 1))) a) (fun a _ => by rw [HD1.out.2.1]; exact frRow_congr (hen a).symm)))
                      by_cases hx0 : x < 0
                      · have h0 : decide ((0 : Int) ≤ x) = false := by simp; omega
                        clear hen hE hb3 hW3 hxu cub
                        go_wp2_with fail
                        exact ⟨⟨j + 1, by omega, by go_num, HZ.out.1, HZ.out.2⟩, by simp [intOf]; omega⟩
                      · obtain ⟨y, rfl, hy, _⟩ := hE.at (show 0 < c by omega) HN.out (by omega)
                        have h0 : decide ((0 : Int) ≤ (y : Int)) = true := by simp
                        have h1 : decide ((y : Int) < (c : Int)) = true := by simp; omega
                        have hxb := hxu.resolve_left hx0
                        rw [← hxb] at cub
                        clear hen hE hb3 hW3 hxu hx0 hxb
                        go_wp2_with fail
                        exact ⟨⟨j + 1, by omega, by go_num, HZ.out.1, HZ.out.2⟩, by simp [intOf]; omega⟩
                    · obtain ⟨y, rfl, hy, _⟩ := hE.at (show 0 < c by omega) HN.out (by omega)
                      have hne : (y : Int) ≠ upI S b := fun e => hxu (.inr e)
                      have hst := hE.step (show 0 < c by omega) HN.out hne
                      have hpos := cntD_pos hy (hE.dom y rfl).1
                      have hcn := hE.cnt y rfl
                      have hi1 : i + 1 ≤ c := by omega
                      have cuy := HK.out.2.1.cell hb3 hy
                      have h0 : decide ((0 : Int) ≤ (y : Int)) = true := by simp
                      have h1 : decide ((y : Int) < (c : Int)) = true := by simp; omega
                      obtain ⟨ub, eub⟩ : ∃ ub, upI S b = ub := ⟨_, rfl⟩
                      rw [eub] at cub hne
                      have h2 : ((y : Int) == ub) = false := by simp [hne]
                      have h3 : ((y : Int) != ub) = true := by simp [hne]
                      obtain ⟨uy, euy⟩ : ∃ uy, upI S y = uy := ⟨_, rfl⟩
                      rw [euy] at cuy hst
                      obtain ⟨D, hown, hseen⟩ := hW3.each y hy
                      have hrw := hW3.row.cell hy
                      simp only [hy, if_true] at hrw
                      have hmu := hW3.up y hy
                      have hql := frRow_len S b (fun y => FrJ S b (P.take j) y ∨ V y) y
                      obtain ⟨m, em⟩ : ∃ m, Mk y = m := ⟨_, rfl⟩
                      obtain ⟨k, ek⟩ : ∃ k, (frRow S b (fun y => FrJ S b (P.take j) y ∨ V y) y).length = k := ⟨_, rfl⟩
                      rw [em] at hown hrw hmu
                      rw [ek] at hown hql
                      have hR4 := HK.out.2.1.lt
                      have hg4 : ∀ w5, wr.grownBy w5 (some m) → w5.cell? ⟨R4, y, none⟩ = some (.int .i64 uy) := fun w5 hg => by
                        have h := (rowIs_kept (HK.out.2.1.all wr hb3) hg (by simp; omega)).cell hy
                        rw [euy] at h
                        exact h
                      have hkey := keyOf_int_mk Try.underlying3 (wfNat b (by omega))
                      have HD := Lib.hid (And.intro hown (And.intro hseen (And.intro (show k < maxLen by unfold maxLen; omega) hg4)))
                      have HE := Lib.hid (And.intro hst (And.intro hb3 (And.intro hW3 (And.intro em (And.intro hmu hi1)))))
                      have hi2 : i + 1 ≤ 1048577 := by omega
                      clear hE hst hb3 hW3 hne hxu hpos hcn hseen hown hg4 hR4 em ek eub euy hql hmu hi1
                      go_wp2_with (at_mapUpdate; refine wpList_mapUpdate_own _ rfl _ _ _ 42 rfl 3 3 lawK Try.underlying42 (plainElem (H := Unit) Try.prog 3) m k D rfl HD.out.1 HD.out.2.2.1 _ _ _ rfl rfl hkey (.lit (.int .i64 1)) [] (plainElem_int Try.underlying3 (by decide)) ?_; intro w5 hown5 hgrow5; have g0 : w5.cell? ⟨R4, y, none⟩ = some (.int .i64 uy) := HD.out.2.2.2 w5 hgrow5)
                      have hWn := HE.out.2.2.1.put hy HD.out.2.1 (HD.out.1.tidy lawK) rfl (by rw [HE.out.2.2.2.1]; exact hown5) (by rw [HE.out.2.2.2.1]; exact hgrow5)
                      refine ⟨⟨uy, i + 1, fun z => V z ∨ z = y, rfl, by go_num, HE.out.2.2.2.2.2, HE.out.1, ?_, hWn.congr (fun a _ => ?_)⟩, by have := HE.out.2.2.2.2.2; simp [intOf]; omega⟩
                      · exact HE.out.2.1.grown hgrow5 HE.out.2.1.size (fun j hj => by cases hj; have := HE.out.2.2.2.2.1; omega)
                      · have e2 : frRow S b (fun z => FrJ S b (P.take j) z ∨ V z ∨ z = y) a = frRow S b (fun z => (FrJ S b (P.take j) z ∨ V z) ∨ z = y) a := frRow_congr or_assoc.symm
                        rw [e2]
                        by_cases hq : FrJ S b (P.take j) y ∨ V y
                        · rw [if_pos (mem_frRow.2 hq), frRow_again hq]
                          by_cases e : a = y
                          · rw [if_pos e, e]
                          · rw [if_neg e]
                        · rw [if_neg (fun h => hq (mem_frRow.1 h)), frRow_put hq]
                          by_cases e : a = y
                          · rw [if_pos e, if_pos e, e]
                          · rw [if_neg e, if_neg e]
                · rw [rchB_not.2 hrd] at cr
                  have HZ := Lib.hid (And.intro HD1.out.2.2.1 (HD1.out.2.2.2.congr (Q' := fun a => frRow S b (FrJ S b (P.take (j + 1))) a) (fun a _ => by rw [HD1.out.2.1, frRow_congr (FrJ.skip hrd)])))
                  clear hrd
                  go_wp2_with fail
                  exact ⟨⟨j + 1, by omega, by go_num, HZ.out.1, HZ.out.2⟩, by simp [intOf]; omega⟩
              · obtain rfl : j = P.length := by omega
                have HZ := Lib.hid (And.intro hb2 (hW2.congr (Q' := fun a => frUpto S (b + 1) a) (fun a _ => by rw [List.take_length, HP.out.2.2.1])))
                clear hb2 hW2
                go_wp2_with fail
                exact ⟨⟨b + 1, by omega, by go_num, HZ.out.1, HZ.out.2⟩, by simp [intOf]; omega⟩
          · obtain rfl : b = c := by omega
            have HZ := Lib.hid (And.intro hb hW)
            clear hb hW HW
            generalize wr = wl at *
            go_wp2_with fail
            go_loopw [130] (fun t wr => ∃ x : Nat, x ≤ b ∧ t = .int .i64 x ∧ Below wl.heap.size wl wr) (fun t _ => b - (intOf t).toNat)
            case atStart => exact ⟨0, Nat.zero_le _, rfl, Below.refl _ _⟩
            case round =>
              obtain ⟨x, hxb, rfl, hbx⟩ := hrel
              by_cases hltx : x < b
              · have hfr := HK.out.2.2.1.later (HZ.out.1.trans (hbx.mono HZ.out.1.size))
                obtain ⟨fq, fcc, hfq⟩ := hfr.slice hltx
                obtain ⟨M, eM⟩ : ∃ M, frUpto S b x = M := ⟨_, rfl⟩
                have hcf : ∀ w, Below wr.heap.size wr w → w.cell? ⟨RF, x, none⟩ = some (.slice fq M.length fcc) := fun w h => by
                  have cf := (hfr.later h).row.cell hltx
                  rw [hfq] at cf
                  simp only [eM, ints_len] at cf
                  exact cf
                have hfown : ∀ w, Below wr.heap.size wr w → w.ownsRow (RF + 1) 3 1 (.slice fq (ints M).length fcc) (ints M).length ((ints M).flatMap intC) := fun w h => by
                  have hown := (hfr.later h).own x hltx
                  rw [hfq] at hown
                  simp only [eM] at hown
                  exact hown
                have hWx := HZ.out.2.later hbx
                obtain ⟨D, hown, hseen⟩ := hWx.each x hltx
                obtain ⟨m, em⟩ : ∃ m, Mk x = m := ⟨_, rfl⟩
                rw [em] at hown
                simp only [eM] at hown hseen
                have hrow : ∀ w, Below wr.heap.size wr w → w.cell? ⟨w3.heap.size, x, none⟩ = some (.map (some m)) := fun w h => by
                  have h := (hWx.later h).row.cell hltx
                  simp only [hltx, if_true, em] at h
                  exact h
                have hownw : ∀ w, Below wr.heap.size wr w → w.ownsMap Try.prog 3 (plainElem (H := Unit) Try.prog 3) m M.length D := fun w h => hown.kept (row := none) (below_grown h) (by simp)
                have hMlt : ∀ i (hi : i < M.length), M[i] < b := by
                  subst eM
                  exact fun i hi => (mem_frUpto.1 (List.getElem_mem hi)).1
                have hMl : M.length ≤ b := by rw [← eM]; exact frUpto_len S b x
                have hsz := hseen.2.2
                have hlen : ∀ k ty, (Builtin.len_ #[42] ty #[.map (some m)]).run Try.prog (wr.drewN k) = .ok (.int .i64 (M.length : Nat)) (wr.drewN k) := fun k ty => by
                  have h := (hownw _ (below_drewN wr.heap.size wr k)).len Try.underlying42 ty
                  rw [hsz] at h
                  exact h
                have cf := hcf wr (Below.refl _ _)
                have hrw := hrow wr (Below.refl _ _)
                have HX := Lib.hid (And.intro hfown (And.intro hMlt (And.intro hownw (And.intro hseen.1 (And.intro hbx (And.intro hrow hcf))))))
                clear hfr hfown hWx hownw hseen hMlt hbx eM hfq em hown hsz hrow hcf
                generalize wr = wo at *
                go_wp2_with fail
                go_quiet (fail)
                all_goals
                  generalize hz : World.drewN wo _ = wd at *
                  have hbd : Below wo.heap.size wo wd := by rw [← hz]; exact below_drewN _ _ _
                  clear hz hlen cf hrw
                  have cf := HX.out.2.2.2.2.2.2 wd hbd
                  go_wp2_with fail
                  clear cf
                  go_loopw [149] (fun t wr => ∃ i : Nat, i ≤ M.length ∧ t = .int .i64 i ∧ Below wo.heap.size wo wr) (fun t _ => M.length - (intOf t).toNat)
                  case atStart => exact ⟨0, Nat.zero_le _, rfl, hbd⟩
                  case round =>
                    obtain ⟨i, hil, rfl, hbi⟩ := hrel
                    have hrw := HX.out.2.2.2.2.2.1 wr hbi
                    by_cases hlti : i < M.length
                    · obtain ⟨pa, rfl, _, hc⟩ := own_int (HX.out.1 wr hbi) hlti
                      have hd := HX.out.2.1 i hlti
                      have hcz : ∀ c : Int, D.atKey (.int .i64 M[i]) (.lit (.int .i64 0)) = .lit (.int .i64 c) → c = 1 := fun c e => by
                        rw [HX.out.2.2.2.1 M[i], if_pos (List.getElem_mem hlti)] at e
                        injection e with e
                        injection e with _ e
                        exact e.symm
                      obtain ⟨d, ed⟩ : ∃ d, M[i] = d := ⟨_, rfl⟩
                      rw [ed] at hc hd
                      simp only [ed] at hcz
                      have hkey := keyOf_int_mk Try.underlying3 (wfNat d (by omega))
                      have HI := Lib.hid (And.intro hcz hbi)
                      clear hcz hbi ed
                      go_wp2_with (at_lookup; refine wpList_lookup_own_int _ rfl _ _ 42 rfl 3 3 .i64 lawK Try.underlying42 Try.underlying3 (zeroI _) m M.length D rfl (HX.out.2.2.1 _ HI.out.2) _ _ rfl hkey ?_; intro c hat hwc; obtain rfl := HI.out.1 c hat; clear hat hwc)
                      exact ⟨⟨i + 1, by omega, by go_num, HI.out.2⟩, by simp [intOf]; omega⟩
                    · obtain rfl : i = M.length := by omega
                      have HI := Lib.hid (HX.out.2.2.2.2.1.trans (hbi.mono HX.out.2.2.2.2.1.size))
                      clear hbi
                      go_wp2_with fail
                      exact ⟨⟨x + 1, by omega, by go_num, HI.out⟩, by simp [intOf]; omega⟩
              · obtain rfl : x = b := by omega
                have HFI := Lib.hid (HK.out.1.2.trans ((HZ.out.1.trans (hbx.mono HZ.out.1.size)).mono HK.out.1.size))
                clear hbx
                go_wp2_with fail
                go_ret
                exact ⟨rfl, HFI.out⟩
end Go.Proofs.Ytphdhndljgihmaa
