/- The law DomCounts: its walk. -/
import Derived.Test.YtphdhndljgihmaaDTree
import Derived.Test.YtphdhndljgihmaaDLive
import Derived.Test.YtphdhndljgihmaaGPairs
import Derived.BigQuiet
namespace Go.Proofs.Ytphdhndljgihmaa
open Go.RowKit Go.Maps
set_option linter.unusedVariables false
set_option linter.unusedSimpArgs false

def RchQ (S : Nat → List Nat) (n R : Nat) (w : World) : Prop := w.rowIs R 4 n (fun i => .bool (rchB S i))
theorem RchQ.all {S : Nat → List Nat} {n R : Nat} {w : World} (h : RchQ S n R w) : ∀ u, Below w.heap.size w u → RchQ S n R u := fun u hu => rowIs_kept h (below_grown hu) (by simp)
theorem RchQ.cell {S : Nat → List Nat} {n R : Nat} {w u : World} (h : RchQ S n R w) (hb : Below w.heap.size w u) {i : Nat} (hi : i < n) : u.cell? ⟨R, i, none⟩ = some (.bool (rchB S i)) := World.rowIs.cell (h.all u hb) hi
/-- How often a block has been seen, in the rows ahead of b and in the first i of b's. -/
noncomputable def snN (S : Nat → List Nat) (n b i x : Nat) : Nat := if (0 ≤ upI S x ∧ upI S x < (b : Int)) ∨ x ∈ (kids S n b).take i then 1 else 0
theorem snN_0 (S : Nat → List Nat) (n x : Nat) : snN S n 0 0 x = 0 := by
  unfold snN
  rw [if_neg]
  rintro (⟨h1, h2⟩ | h)
  · omega
  · simp at h
theorem kids_nodup (S : Nat → List Nat) (n b : Nat) : (kids S n b).Nodup := (kids_rise S n b).imp fun h => Nat.ne_of_lt h
theorem snN_new {S : Nat → List Nat} {n b i : Nat} (hi : i < (kids S n b).length) : snN S n b i (kids S n b)[i] = 0 := by
  unfold snN
  rw [if_neg]
  have hm := mem_kids.1 (List.getElem_mem hi)
  rintro (⟨h1, h2⟩ | h)
  · rw [upI_some hm.2] at h2; omega
  · obtain ⟨k, hk, e⟩ := List.mem_iff_getElem.1 h
    rw [List.getElem_take] at e
    have hk' : k < i := by rw [List.length_take] at hk; omega
    have := (List.getElem_inj (kids_nodup S n b)).1 e
    omega
theorem snN_step {S : Nat → List Nat} {n b i : Nat} (hi : i < (kids S n b).length) (x : Nat) : snN S n b (i + 1) x = if x = (kids S n b)[i] then 1 else snN S n b i x := by
  unfold snN
  have hm : x ∈ (kids S n b).take (i + 1) ↔ x ∈ (kids S n b).take i ∨ x = (kids S n b)[i] := by rw [List.take_succ_eq_append_getElem hi, List.mem_append, List.mem_singleton]
  simp only [hm]
  by_cases e : x = (kids S n b)[i]
  · rw [if_pos e, if_pos (.inr (.inr e))]
  · rw [if_neg e]
    simp only [e, or_false]
theorem snN_row {S : Nat → List Nat} {n b x : Nat} (hx : x < n) : snN S n b (kids S n b).length x = snN S n (b + 1) 0 x := by
  unfold snN
  rw [List.take_length]
  have hm : x ∈ kids S n b ↔ upI S x = (b : Int) := by rw [mem_kids, upI_iff]; exact ⟨fun h => h.2, fun h => ⟨hx, h⟩⟩
  have : ((0 ≤ upI S x ∧ upI S x < (b : Int)) ∨ x ∈ kids S n b) ↔ ((0 ≤ upI S x ∧ upI S x < ((b + 1 : Nat) : Int)) ∨ x ∈ (kids S n (b + 1)).take 0) := by
    rw [hm]
    simp
    omega
  simp only [this]
theorem snN_end {S : Nat → List Nat} {n x : Nat} (hS : ∀ b, ∀ t ∈ S b, t < n) (hx : x < n) (h0 : x ≠ 0) : snN S n n 0 x = if rchB S x then 1 else 0 := by
  have hn : 0 < n := by omega
  unfold snN
  have h1 := upI_nat hn hS x
  have h2 := upI_lt hn hS x
  have : ((0 ≤ upI S x ∧ upI S x < (n : Int)) ∨ x ∈ (kids S n n).take 0) ↔ rchB S x = true := by
    rw [rchB_iff]
    simp
    constructor
    · rintro ⟨h, _⟩; exact (h1.1 h).1
    · intro h; exact ⟨h1.2 ⟨h, h0⟩, h2.2⟩
  simp only [this]
/-- Tree's and Reach's answers. -/
def TwoT (W : World) (cs : List Value) (S : Nat → List Nat) (n : Nat) (s3 s4 : Value) (w : World) : Prop :=
  ∃ R1 vs R2, s3 = .slice (some ⟨R1, 0, none⟩) n n ∧ s4 = .slice (some ⟨R2, 0, none⟩) n n ∧ (Past W.heap.size W w ∧ Box W.heap.size cs w) ∧ PredQ R1 n vs (fun t => ints (kids S n t)) w ∧ RchQ S n R2 w
set_option maxRecDepth 100000 in
set_option maxHeartbeats 8000000 in
theorem counts_walk (W : World) (f : LFn) (hf : FnIn W.heap.size W f) (hs : FnSm f) (hbs : f.bs.length ≤ 1048576) :
    Calls Try.prog 9 #[.agg (fnC f).toArray] W fun e w' => e = .returned (.bool true) ∧ Below W.heap.size W w' := by
  have cl := lives_any
  have hP := (Past.refl (Nat.le_refl W.heap.size)).alloc (.cells (fnC f).toArray 25)
  have A1 : Box W.heap.size (fnC f) (W.alloc (.cells (fnC f).toArray 25)) := Box.new W rfl _ _
  have cF : ∀ w, Below W.heap.size W w → FnIn w.heap.size w f := fun w h => past_lasts lasts_Fn hf ⟨Nat.le_refl _, h⟩
  have HN : Hid (∀ b, ∀ t ∈ succP (fnD f).bs b, t < f.bs.length) := Lib.hid (fun b t ht => by
    have := succP_lt _ _ t ht
    simpa [fnD] using this)
  obtain ⟨L, hL⟩ := order_ex HN.out
  have hO := hL.ordered HN.out
  have cLo : ∀ w, Below W.heap.size W w → Calls Try.prog 11 #[.agg (fnC f).toArray] w (SomeBool w) := fun w h => long_any f w (cF w h) hbs
  have cTr : ∀ w, Below W.heap.size W w → Calls Try.prog 13 #[.agg (fnC f).toArray] w (OwnLL f.bs.length (fun t => ints (kids (succP (fnD f).bs) f.bs.length t)) w) := fun w h => Tree_own f w (cF w h) hs hbs
  have cRe : ∀ w, Below W.heap.size W w → Calls Try.prog 25 #[.agg (fnC f).toArray] w (OwnBools f.bs.length (rchB (succP (fnD f).bs)) w) := fun w h => by
    refine (Reach_own f w (cF w h) hs hbs L hL).mono ?_
    rintro e w' ⟨R, h1, h2, h3, h4⟩
    obtain ⟨c, e1, e2, e3⟩ := h4
    refine ⟨R, h1, h2, h3, c, e1, e2, fun i hi => ?_⟩
    rw [e3 i hi]
    have : decide (i ∈ L) = rchB (succP (fnD f).bs) i := by
      rw [Bool.eq_iff_iff, decide_eq_true_eq, rchB_iff]
      exact hO.rch i (by omega)
    simp only [this]
  obtain ⟨S, eS⟩ : ∃ S, succP (fnD f).bs = S := ⟨_, rfl⟩
  simp only [eS] at cTr cRe HN
  obtain ⟨nm, pp, pn, pc, ps, rt, bp, bn, bc, bs⟩ := f
  obtain rfl : bn = bs.length := hf.2.1
  show Calls Try.prog 9 #[.agg #[.string nm, .slice pp pn pc, .int .i64 rt, .slice bp bs.length bc]] W _
  have hfc : fnC ⟨nm, pp, pn, pc, ps, rt, bp, bs.length, bc, bs⟩ = [.string nm, .slice pp pn pc, .int .i64 rt, .slice bp bs.length bc] := rfl
  rw [hfc] at A1 hP
  simp only [hfc] at cLo cTr cRe
  obtain ⟨n, en⟩ : ∃ n, bs.length = n := ⟨_, rfl⟩
  simp only [en] at cLo cTr cRe A1 hP hbs HN ⊢
  have HC := Lib.hid (And.intro cLo (And.intro cTr cRe))
  have HB := Lib.hid (And.intro hP A1)
  clear cLo cTr cRe hP A1 cF hfc hf hs eS en hO hL
  go_enter Try.func9, Try.ntmps9
  go_wp2_with fail
  refine (cl _).mono ?_
  rintro e w1 ⟨rfl, hb1⟩
  have H1 := Lib.hid (And.intro (HB.out.1.trans ⟨HB.out.1.size, hb1.mono HB.out.1.size⟩) (HB.out.2.later hb1))
  clear hb1 cl HB
  have b0 := H1.out.2.get 0 _ rfl
  have b1 := H1.out.2.get 1 _ rfl
  have b2 := H1.out.2.get 2 _ rfl
  have b3 := H1.out.2.get 3 _ rfl
  have c1 := HC.out.1 w1 H1.out.1.2
  go_wp2_with fail
  refine c1.mono ?_
  rintro e w2 ⟨bl, rfl, hb2⟩
  have H2 := Lib.hid (And.intro (H1.out.1.trans ⟨H1.out.1.size, hb2.mono H1.out.1.size⟩) (H1.out.2.later hb2))
  clear hb2 c1 H1 b0 b1 b2 b3
  cases bl
  case true =>
    go_wp2
    go_ret
    exact ⟨rfl, H2.out.1.2⟩
  go_upto_region 5 with fail
  go_cut [3, 4] (fun s3 s4 wx => TwoT W [.string nm, .slice pp pn pc, .int .i64 rt, .slice bp n bc] S n s3 s4 wx)
  case first =>
    have HS : ∀ w w' : World, (w.cell? ⟨W.heap.size, 0, none⟩ = some (.string nm) ∧ w.cell? ⟨W.heap.size, 1, none⟩ = some (.slice pp pn pc) ∧ w.cell? ⟨W.heap.size, 2, none⟩ = some (.int .i64 rt) ∧ w.cell? ⟨W.heap.size, 3, none⟩ = some (.slice bp n bc) ∧ W.heap.size < w.heap.size ∧ Below W.heap.size W w) → Below w.heap.size w w' → (w'.cell? ⟨W.heap.size, 0, none⟩ = some (.string nm) ∧ w'.cell? ⟨W.heap.size, 1, none⟩ = some (.slice pp pn pc) ∧ w'.cell? ⟨W.heap.size, 2, none⟩ = some (.int .i64 rt) ∧ w'.cell? ⟨W.heap.size, 3, none⟩ = some (.slice bp n bc) ∧ W.heap.size < w'.heap.size ∧ Below W.heap.size W w') := by
      rintro w w' ⟨q0, q1, q2, q3, q4, q5⟩ hb
      exact ⟨(hb.cell (p := ⟨W.heap.size, 0, none⟩) q4).trans q0, (hb.cell (p := ⟨W.heap.size, 1, none⟩) q4).trans q1, (hb.cell (p := ⟨W.heap.size, 2, none⟩) q4).trans q2, (hb.cell (p := ⟨W.heap.size, 3, none⟩) q4).trans q3, Nat.lt_of_lt_of_le q4 hb.size, q5.trans (hb.mono (Nat.le_of_lt q4))⟩
    have hS3 : w2.cell? ⟨W.heap.size, 0, none⟩ = some (.string nm) ∧ w2.cell? ⟨W.heap.size, 1, none⟩ = some (.slice pp pn pc) ∧ w2.cell? ⟨W.heap.size, 2, none⟩ = some (.int .i64 rt) ∧ w2.cell? ⟨W.heap.size, 3, none⟩ = some (.slice bp n bc) ∧ W.heap.size < w2.heap.size ∧ Below W.heap.size W w2 := ⟨H2.out.2.get 0 _ rfl, H2.out.2.get 1 _ rfl, H2.out.2.get 2 _ rfl, H2.out.2.get 3 _ rfl, H2.out.2.1, H2.out.1.2⟩
    obtain ⟨k0, k1, k2, k3, k4, k5⟩ := hS3
    have kh : Hold [(fun u => Past W.heap.size W u ∧ Box W.heap.size [.string nm, .slice pp pn pc, .int .i64 rt, .slice bp n bc] u)] w2 := Hold.one (fun u hu => ⟨H2.out.1.trans ⟨H2.out.1.size, hu.mono H2.out.1.size⟩, H2.out.2.later hu⟩)
    have cP : ∀ G w, ((w.cell? ⟨W.heap.size, 0, none⟩ = some (.string nm) ∧ w.cell? ⟨W.heap.size, 1, none⟩ = some (.slice pp pn pc) ∧ w.cell? ⟨W.heap.size, 2, none⟩ = some (.int .i64 rt) ∧ w.cell? ⟨W.heap.size, 3, none⟩ = some (.slice bp n bc) ∧ W.heap.size < w.heap.size ∧ Below W.heap.size W w) ∧ Hold G w) → Calls Try.prog 13 #[.agg #[.string nm, .slice pp pn pc, .int .i64 rt, .slice bp n bc]] w fun e w' => ∃ R vs, e = .returned (.slice (some ⟨R, 0, none⟩) n n) ∧ w'.cell? ⟨W.heap.size, 0, none⟩ = some (.string nm) ∧ w'.cell? ⟨W.heap.size, 1, none⟩ = some (.slice pp pn pc) ∧ w'.cell? ⟨W.heap.size, 2, none⟩ = some (.int .i64 rt) ∧ w'.cell? ⟨W.heap.size, 3, none⟩ = some (.slice bp n bc) ∧ W.heap.size < w'.heap.size ∧ Below W.heap.size W w' ∧ Hold (PredQ R n vs (fun t => ints (kids S n t)) :: G) w' := by
      rintro G w ⟨k, kh⟩
      refine (HC.out.2.1 w k.2.2.2.2.2).mono ?_
      rintro e w' ⟨R, vs, he, hp, hR, hl⟩
      obtain ⟨q0, q1, q2, q3, q4, q5⟩ := HS w w' k hp.2
      exact ⟨R, vs, he, q0, q1, q2, q3, q4, q5, kh.cons hp.2 (PredQ.all hl)⟩
    have cR : ∀ G w, ((w.cell? ⟨W.heap.size, 0, none⟩ = some (.string nm) ∧ w.cell? ⟨W.heap.size, 1, none⟩ = some (.slice pp pn pc) ∧ w.cell? ⟨W.heap.size, 2, none⟩ = some (.int .i64 rt) ∧ w.cell? ⟨W.heap.size, 3, none⟩ = some (.slice bp n bc) ∧ W.heap.size < w.heap.size ∧ Below W.heap.size W w) ∧ Hold G w) → Calls Try.prog 25 #[.agg #[.string nm, .slice pp pn pc, .int .i64 rt, .slice bp n bc]] w fun e w' => ∃ R, e = .returned (.slice (some ⟨R, 0, none⟩) n n) ∧ w'.cell? ⟨W.heap.size, 0, none⟩ = some (.string nm) ∧ w'.cell? ⟨W.heap.size, 1, none⟩ = some (.slice pp pn pc) ∧ w'.cell? ⟨W.heap.size, 2, none⟩ = some (.int .i64 rt) ∧ w'.cell? ⟨W.heap.size, 3, none⟩ = some (.slice bp n bc) ∧ W.heap.size < w'.heap.size ∧ Below W.heap.size W w' ∧ Hold (RchQ S n R :: G) w' := by
      rintro G w ⟨k, kh⟩
      refine (HC.out.2.2 w k.2.2.2.2.2).mono ?_
      rintro e w' ⟨R, he, hp, hR, hl⟩
      obtain ⟨q0, q1, q2, q3, q4, q5⟩ := HS w w' k hp.2
      exact ⟨R, he, q0, q1, q2, q3, q4, q5, kh.cons hp.2 (RchQ.all hl)⟩
    clear HS
    go_region_held3 (fun w' => w'.cell? ⟨W.heap.size, 0, none⟩ = some (.string nm) ∧ w'.cell? ⟨W.heap.size, 1, none⟩ = some (.slice pp pn pc) ∧ w'.cell? ⟨W.heap.size, 2, none⟩ = some (.int .i64 rt) ∧ w'.cell? ⟨W.heap.size, 3, none⟩ = some (.slice bp n bc) ∧ W.heap.size < w'.heap.size ∧ Below W.heap.size W w')
      (((try dsimp only); (repeat' apply And.intro) <;> (first | (with_reducible assumption) | (rw [World.cell?_drew]; with_reducible assumption) | (with_reducible apply below_drew; with_reducible assumption) | (simp <;> omega))))
      (first
        | ((with_reducible refine' (cP _ _ ?pre).mono ?_)
           case pre => (refine ⟨⟨?_, ?_, ?_, ?_, ?_, ?_⟩, ?_⟩ <;> (first | (with_reducible assumption) | (rw [World.cell?_drew]; with_reducible assumption) | (with_reducible apply below_drew; with_reducible assumption) | (with_reducible apply Hold.drew; with_reducible assumption) | (simp <;> omega) | omega))
           rintro e wp ⟨R1, vs, rfl, sb0, sb1, sb2, sb3, sb4, sb5, sbh⟩)
        | ((with_reducible refine' (cR _ _ ?pre).mono ?_)
           case pre => (refine ⟨⟨?_, ?_, ?_, ?_, ?_, ?_⟩, ?_⟩ <;> (first | (with_reducible assumption) | (rw [World.cell?_drew]; with_reducible assumption) | (with_reducible apply below_drew; with_reducible assumption) | (with_reducible apply Hold.drew; with_reducible assumption) | (simp <;> omega) | omega))
           rintro e wr ⟨R2, rfl, sc0, sc1, sc2, sc3, sc4, sc5, sch⟩))
    all_goals
      go_wp2_with fail
      go_meet
      exact ⟨R1, vs, R2, rfl, rfl, sch.get (fun u => Past W.heap.size W u ∧ Box W.heap.size [.string nm, .slice pp pn pc, .int .i64 rt, .slice bp n bc] u) (.tail _ (.tail _ (.head _))), sch.get (PredQ R1 n vs _) (.tail _ (.head _)), sch.get (RchQ S n R2) (.head _)⟩
  case rest =>
    obtain ⟨R1, vs, R2, rfl, rfl, ⟨hp, hbox⟩, hll, hr⟩ := hcut
    generalize wc = w3 at *
    have kA := hbox.get 3 _ rfl
    have HK := Lib.hid (And.intro hp (And.intro hll hr))
    clear hp hbox hll hr
    have hmk := run_make_row' (P := Try.prog) 22 3 _ _ Try.underlying22 infoInt rfl .i64 .i64 n (by omega) (by omega)
    have r0 := World.rowIs_made w3 (.int .i64 0) n 3
    have hb4 : Below w3.heap.size w3 (w3.alloc (.cells (madeCells #[.int .i64 0] n) 3)) := (Below.refl _ _).alloc (Nat.le_refl _) _
    have HR := Lib.hid (And.intro r0 hb4)
    clear r0 hb4
    go_wp2_with fail
    clear hmk kA
    go_loopw [37] (fun t wr => ∃ b : Nat, b ≤ n ∧ t = .int .i64 b ∧ Below w3.heap.size w3 wr ∧ wr.rowIs w3.heap.size 3 n (fun x => .int .i64 ((snN S n b 0 x : Nat) : Int))) (fun t _ => n - (intOf t).toNat)
    case atStart => exact ⟨0, Nat.zero_le _, rfl, HR.out.2, HR.out.1.congr (fun j _ => by rw [snN_0]; rfl)⟩
    case round =>
      obtain ⟨b, hbn, rfl, hb, hra⟩ := hrel
      by_cases hltb : b < n
      · have hll := HK.out.2.1.later hb
        have cp := hll.row.cell hltb
        obtain ⟨q, cc, hq⟩ := hll.slice hltb
        rw [hq] at cp
        have cr := HK.out.2.2.cell hb hltb
        obtain ⟨M, eM⟩ : ∃ M, kids S n b = M := ⟨_, rfl⟩
        have hM : ∀ i (hi : i < M.length), 0 < M[i] ∧ M[i] < n ∧ rchB S b = true := by
          subst eM
          intro i hi
          have hm := mem_kids.1 (List.getElem_mem hi)
          refine ⟨?_, hm.1, rchB_iff.2 hm.2.2.1.1⟩
          apply Nat.pos_of_ne_zero
          intro e
          have := hm.2
          rw [e] at this
          exact this.not_zero
        have hri : ∀ i (hi : i + 1 < M.length), M[i] < M[i + 1] := by
          subst eM
          intro i hi
          exact (List.pairwise_iff_getElem.1 (kids_rise S n b)) i (i + 1) (by omega) hi (by omega)
        have hst : ∀ i (hi : i < M.length) x, snN S n b (i + 1) x = if x = M[i] then 1 else snN S n b i x := by
          subst eM
          exact fun i hi x => snN_step hi x
        have hnw : ∀ i (hi : i < M.length), snN S n b i M[i] = 0 := by
          subst eM
          exact fun i hi => snN_new hi
        have hrw : ∀ x, x < n → snN S n b M.length x = snN S n (b + 1) 0 x := by
          subst eM
          exact fun x hx => snN_row hx
        have hMl : M.length ≤ n := by rw [← eM]; exact kids_len S n b
        have hown : ∀ w, Below w3.heap.size w3 w → w.ownsRow (R1 + 1) 3 1 (.slice q (ints M).length cc) (ints M).length ((ints M).flatMap intC) := fun w h => by
          have hown := (HK.out.2.1.later h).own b hltb
          rw [hq] at hown
          simp only [eM] at hown
          exact hown
        simp only [eM, ints_len] at cp
        have HX := Lib.hid (And.intro hown (And.intro hM (And.intro hri (And.intro hst (And.intro hnw (And.intro hrw (And.intro hb hra)))))))
        clear hll hq hown hM hri hst hnw hrw hb hra eM cr
        go_wp2_with fail
        clear cp
        go_loopw [44] (fun t wr2 => ∃ i : Nat, i ≤ M.length ∧ t = .int .i64 i ∧ Below w3.heap.size w3 wr2 ∧ wr2.rowIs w3.heap.size 3 n (fun x => .int .i64 ((snN S n b i x : Nat) : Int))) (fun t _ => M.length - (intOf t).toNat)
        case atStart => exact ⟨0, Nat.zero_le _, rfl, HX.out.2.2.2.2.2.2.1, HX.out.2.2.2.2.2.2.2⟩
        case round =>
          obtain ⟨i, hile, rfl, hb3, hra⟩ := hrel
          have hownj := HX.out.1 wr hb3
          by_cases hlti : i < M.length
          · obtain ⟨a, rfl, ha, hc⟩ := own_int hownj hlti
            have hx := HX.out.2.1 i hlti
            have hst := HX.out.2.2.2.1 i hlti
            have hnw := HX.out.2.2.2.2.1 i hlti
            have hpr : ∀ k, i = k + 1 → ∃ y : Nat, wr.cell? (a.add k) = some (.int .i64 y) ∧ y < M[i] := fun k e => by
              subst e
              obtain ⟨a', e', _, hc'⟩ := own_int hownj (j := k) (by omega)
              obtain rfl : a = a' := by injection e'
              exact ⟨M[k], hc', HX.out.2.2.1 k hlti⟩
            obtain ⟨x, ex⟩ : ∃ x, M[i] = x := ⟨_, rfl⟩
            rw [ex] at hc hx hnw
            simp only [ex] at hst hpr
            have crb := HK.out.2.2.cell hb3 hltb
            rw [hx.2.2] at crb
            have hxn := hx.2.1
            have hx0 := hx.1
            have ca := hra.cell hxn
            rw [hnw] at ca
            have fa := hra.frozen x
            have hd1 : decide ((x : Int) < 1) = false := by simp; omega
            have hd2 : decide ((b : Int) ≤ (x : Int)) = decide ((b : Int) ≤ (x : Int)) := rfl
            have hd3 : decide ((n : Int) ≤ (x : Int)) = false := by simp; omega
            have hd4 : decide (n ≤ x) = false := by simp; omega
            have hd5 : decide (x < 1) = false := by simp; omega
            have HH := Lib.hid (And.intro hb3 (And.intro hra hst))
            clear hb3 hra hst hnw ex hownj hx hd2
            by_cases hi0 : i = 0
            · subst hi0
              have hc1 : wr.cell? a = some (.int .i64 (x : Nat)) := by rw [add_zero] at hc; exact hc
              clear hpr hc
              go_wp2_with fail
              have hset := (HH.out.2.1.set x (.int .i64 1)).congr (g := fun y => .int .i64 ((snN S n b (0 + 1) y : Nat) : Int)) (fun j hj => by
                simp only [HH.out.2.2 j]
                by_cases e : j = x
                · rw [if_pos e, if_pos e]; rfl
                · rw [if_neg e, if_neg e])
              refine ⟨⟨0 + 1, by omega, by go_num, ?_, hset⟩, by simp [intOf]; omega⟩
              exact HH.out.1.setCell (show w3.heap.size ≤ (⟨w3.heap.size, x, none⟩ : Addr).block from Nat.le_refl _) _
            · obtain ⟨k, hk⟩ : ∃ k, i = k + 1 := ⟨i - 1, by omega⟩
              obtain ⟨y, cy, hyx⟩ := hpr k hk
              have hd6 : decide ((0 : Int) < (i : Int)) = true := by simp <;> omega
              have hd6' : decide (0 < i) = true := by simp <;> omega
              have hd7 : decide ((x : Int) ≤ (y : Int)) = false := by simp <;> omega
              have hd8 : decide (x ≤ y) = false := by simp <;> omega
              have hw1 : IntKind.i64.wrap ((i : Int) - 1) = (k : Int) := by
                have : (i : Int) - 1 = (k : Int) := by omega
                rw [this]
                exact IntWalk.i64_in _ (by omega)
              have hk1 : k < M.length := by omega
              clear hpr hk hyx
              go_wp2_with fail
              have hset := (HH.out.2.1.set x (.int .i64 1)).congr (g := fun y => .int .i64 ((snN S n b (i + 1) y : Nat) : Int)) (fun j hj => by
                simp only [HH.out.2.2 j]
                by_cases e : j = x
                · rw [if_pos e, if_pos e]; rfl
                · rw [if_neg e, if_neg e])
              refine ⟨⟨i + 1, by omega, by go_num, ?_, hset⟩, by simp [intOf]; omega⟩
              exact HH.out.1.setCell (show w3.heap.size ≤ (⟨w3.heap.size, x, none⟩ : Addr).block from Nat.le_refl _) _
          · obtain rfl : i = M.length := by omega
            have HZ := Lib.hid (And.intro hb3 (hra.congr (g := fun x => .int .i64 ((snN S n (b + 1) 0 x : Nat) : Int)) (fun j hj => by rw [HX.out.2.2.2.2.2.1 j hj])))
            clear hb3 hra hownj
            go_wp2_with fail
            exact ⟨⟨b + 1, by omega, by go_num, HZ.out.1, HZ.out.2⟩, by simp [intOf]; omega⟩
      · obtain rfl : b = n := by omega
        have HZ := Lib.hid (And.intro hb hra)
        have HFI := Lib.hid (HK.out.1.2.trans (hb.mono HK.out.1.size))
        clear hb hra
        generalize wr = wl at *
        go_wp2_with fail
        go_loopw [11] (fun t wr => ∃ x : Nat, 1 ≤ x ∧ x ≤ b + 1 ∧ t = .int .i64 x ∧ Below wl.heap.size wl wr) (fun t _ => b - (intOf t).toNat)
        case atStart => exact ⟨1, Nat.le_refl _, by omega, rfl, Below.refl _ _⟩
        case round =>
          obtain ⟨x, hx1, hx2, rfl, hbx⟩ := hrel
          by_cases hxn : x < b
          · have cs := (rowIs_kept HZ.out.2 (below_grown hbx) (by simp)).cell hxn
            have cr := HK.out.2.2.cell (HZ.out.1.trans (hbx.mono HZ.out.1.size)) hxn
            have he := snN_end HN.out hxn (by omega)
            obtain ⟨rx, erx⟩ : ∃ rx, rchB S x = rx := ⟨_, rfl⟩
            rw [erx] at cr he
            rw [he] at cs
            have HBX := Lib.hid hbx
            clear hbx he erx
            cases rx
            all_goals
              simp only [if_true, Bool.false_eq_true, if_false] at cs
              go_wp2_with fail
              go_quiet (fail)
              all_goals
                go_wp2_with fail
                exact ⟨⟨x + 1, by omega, by omega, by go_num, HBX.out.trans (below_drewN _ _ _)⟩, by simp [intOf]; omega⟩
          · have HFJ := Lib.hid (HFI.out.trans (hbx.mono HFI.out.size))
            clear hbx
            go_wp2_with fail
            go_ret
            exact ⟨rfl, HFJ.out⟩
end Go.Proofs.Ytphdhndljgihmaa
