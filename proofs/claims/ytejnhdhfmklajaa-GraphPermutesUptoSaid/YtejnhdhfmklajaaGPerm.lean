/- The law GraphPermutes: its walk. -/
import Derived.Test.YtejnhdhfmklajaaPSwap
import Derived.Test.YtejnhdhfmklajaaGOrders
namespace Go.Proofs.Ytejnhdhfmklajaa
open Go.RowKit Go.Maps
set_option linter.unusedVariables false
set_option linter.unusedSimpArgs false

/-- What stands of the argument and of the function that is changed about. -/
structure TG (W : World) (cs ms : List Value) (bm : Nat) (z : LFn) (w : World) : Prop where
  past : Past W.heap.size W w
  box : Box W.heap.size cs w
  mbox : Box bm ms w
  fin : FnIn w.heap.size w z
theorem TG.later {W w w' : World} {cs ms : List Value} {bm : Nat} {z : LFn} (h : TG W cs ms bm z w) (hb : Below w.heap.size w w') : TG W cs ms bm z w' :=
  ⟨h.past.trans ⟨h.past.size, hb.mono h.past.size⟩, h.box.later hb, h.mbox.later hb, FnIn.all h.fin w' hb⟩
theorem TG.all {W w : World} {cs ms : List Value} {bm : Nat} {z : LFn} (h : TG W cs ms bm z w) : ∀ u, Below w.heap.size w u → TG W cs ms bm z u := fun u hu => h.later hu
theorem Moved_nat (x a b : Nat) (W : World) : Calls Try.prog 24 #[.int .i64 x, .int .i64 a, .int .i64 b] W fun e w' => e = .returned (.int .i64 ((mvN a b x : Nat) : Int)) ∧ W = w' := by
  refine (Moved_any x a b W).mono ?_
  rintro e w' ⟨he, hw⟩
  exact ⟨by rw [he, mvI_nat], hw⟩
theorem wfI_small {b : Nat} (h : b ≤ 1048576) : wfI (b : Int) := by
  unfold wfI Lit.wf
  rw [Bool.and_eq_true]
  exact ⟨decide_eq_true (by show (-9223372036854775808 : Int) ≤ _; omega), decide_eq_true (by show _ ≤ (9223372036854775807 : Int); omega)⟩
theorem place_of2 (x : Int) (n : Nat) (hn : 3 ≤ n) (hb : n ≤ 1048576) : ∃ A : Nat, wrap64 (1 + wrap64 ((IntKind.u64.wrap x).tmod ((n : Int) - 1))) = (A : Int) ∧ 0 < A ∧ A < n := by
  have hu : 0 ≤ IntKind.u64.wrap x := by
    show 0 ≤ x % 18446744073709551616
    exact Int.emod_nonneg _ (by decide)
  obtain ⟨U, eU⟩ : ∃ U, IntKind.u64.wrap x = U := ⟨_, rfl⟩
  rw [eU] at hu ⊢
  have h1 : 0 ≤ U.tmod ((n : Int) - 1) := Int.tmod_nonneg _ hu
  have h2 : U.tmod ((n : Int) - 1) < (n : Int) - 1 := Int.tmod_lt_of_pos _ (by omega)
  obtain ⟨r, er⟩ : ∃ r, U.tmod ((n : Int) - 1) = r := ⟨_, rfl⟩
  rw [er] at h1 h2 ⊢
  have e1 : wrap64 r = r := IntWalk.wrap64_in _ (by omega)
  have e2 : wrap64 (1 + r) = 1 + r := IntWalk.wrap64_in _ (by omega)
  exact ⟨(1 + r).toNat, by rw [e1, e2]; omega, by omega, by omega⟩
theorem Moved_q (x a b : Nat) (W : World) : Calls Try.prog 24 #[.int .i64 x, .int .i64 a, .int .i64 b] W fun e w' => e = .returned (.int .i64 ((mvN a b x : Nat) : Int)) ∧ w' = W := (Moved_nat x a b W).mono fun _ _ ⟨h1, h2⟩ => ⟨h1, h2.symm⟩
theorem FnTw.tgt {f : LFn} (h : FnSm f) {a b : Nat} (ha : a ≤ 1048576) (hb : b ≤ 1048576) {z : LFn} (hp : Perm a b (fnD f).bs (fnD z).bs) (hab : a < f.bs.length ∧ b < f.bs.length) : FnSm z := by
  intro c hc
  have hm : blkD c ∈ (fnD z).bs := List.mem_map_of_mem hc
  obtain ⟨i, hi, e⟩ := List.mem_iff_getElem.1 hm
  have hl : (fnD f).bs.length = f.bs.length := by simp [fnD]
  have hj : mvN a b i < (fnD f).bs.length := by rw [hl, mvN_lt hab.1 hab.2, ← hl, ← hp.len]; exact hi
  have h1 := hp.get (mvN a b i) hj
  rw [mvN_mvN, List.getD_eq_getElem?_getD, List.getElem?_eq_getElem hi, List.getD_eq_getElem?_getD, List.getElem?_eq_getElem hj] at h1
  simp only [Option.getD_some] at h1
  rw [e] at h1
  have hm2 : (fnD f).bs[mvN a b i] ∈ (fnD f).bs := List.getElem_mem hj
  obtain ⟨c', hc', e'⟩ := List.mem_map.1 hm2
  have h2 := h c' hc'
  rw [h1, tgtP_mv, List.length_map, ← e']
  refine ⟨h2.1, fun t ht => ?_⟩
  obtain ⟨t', ht', rfl⟩ := List.mem_map.1 ht
  unfold mvI
  split
  · exact wfI_small hb
  · split
    · exact wfI_small ha
    · exact h2.2 t' ht'
/-- Orders' and Reaches' answers. -/
def FourO (W : World) (cs ms : List Value) (bm : Nat) (z : LFn) (n : Nat) (L L' : List Nat) (s9 s10 s11 s12 : Value) (w : World) : Prop :=
  ∃ p1 c1 p2 c2 R1 R2, s9 = .slice p1 L.length c1 ∧ s10 = .slice p2 L'.length c2 ∧ s11 = .slice (some ⟨R1, 0, none⟩) n n ∧ s12 = .slice (some ⟨R2, 0, none⟩) n n ∧ TG W cs ms bm z w ∧ OrdQ p1 c1 L w ∧ OrdQ p2 c2 L' w ∧ ReachQ R1 n L w ∧ ReachQ R2 n L' w
set_option maxRecDepth 100000 in
set_option maxHeartbeats 4000000 in
theorem permutes_walk (W : World) (f : LFn) (av bv : Int) (hf : FnIn W.heap.size W f) (hs : FnSm f) (hbs : f.bs.length ≤ 1048576) (hw : FnTw f) (hz : fnZ (fnD f) ≤ 1048576) :
    Calls Try.prog 6 #[.agg (fnC f).toArray, .int .i64 av, .int .i64 bv] W fun e w' => e = .returned (.bool true) ∧ Below W.heap.size W w' := by
  have cl := lives_any
  have hSn : ∀ b, (succP (fnD f).bs b).Nodup ∧ ∀ t ∈ succP (fnD f).bs b, t < f.bs.length := fun b => ⟨succP_nodup _ b, fun t ht => by
    have := succP_lt _ _ t ht
    simpa [fnD] using this⟩
  obtain ⟨L, hL⟩ := order_ex (fun b => (hSn b).2)
  have hO := hL.ordered (fun b => (hSn b).2)
  have hP := (Past.refl (Nat.le_refl W.heap.size)).alloc (.cells (fnC f).toArray 25)
  have A1 : Box W.heap.size (fnC f) (W.alloc (.cells (fnC f).toArray 25)) := Box.new W rfl _ _
  have cF : ∀ w, Below W.heap.size W w → FnIn w.heap.size w f := fun w h => past_lasts lasts_Fn hf ⟨Nat.le_refl _, h⟩
  have cLo : ∀ w, Below W.heap.size W w → Calls Try.prog 8 #[.agg (fnC f).toArray] w (SomeBool w) := fun w h => Long_any f w (cF w h) hbs
  have cOr : ∀ w, Below W.heap.size W w → Calls Try.prog 16 #[.agg (fnC f).toArray] w (OwnInts L w) := fun w h => Order_own f w (cF w h) hs hbs L hL
  have cSw : ∀ (a b : Nat), a < f.bs.length → b < f.bs.length → ∀ w, Below W.heap.size W w → Calls Try.prog 23 #[.agg (fnC f).toArray, .int .i64 a, .int .i64 b] w fun e w' => ∃ z, e = .returned (.agg (fnC z).toArray) ∧ Perm a b (fnD f).bs (fnD z).bs ∧ Past w.heap.size w w' ∧ FnIn w'.heap.size w' z := fun a b ha hb w h => Swapped_own f a b w (cF w h) hz ha hb
  have hfl : (fnD f).bs.length = f.bs.length := by simp [fnD]
  have gSm : ∀ (a b : Nat) (z : LFn), a < f.bs.length → b < f.bs.length → Perm a b (fnD f).bs (fnD z).bs → FnSm z ∧ z.bs.length = f.bs.length := fun a b z ha hb hp => ⟨FnTw.tgt hs (by omega) (by omega) hp ⟨ha, hb⟩, by have := hp.len; rw [hfl] at this; simpa [fnD] using this⟩
  have gSu : ∀ (a b : Nat) (z : LFn), a < f.bs.length → b < f.bs.length → Perm a b (fnD f).bs (fnD z).bs → ∀ (x : Nat) w, FnIn w.heap.size w z → Calls Try.prog 11 #[.agg (fnC z).toArray, .int .i64 (mvN a b x : Nat)] w (OwnInts ((succP (fnD f).bs x).map (mvN a b)) w) := fun a b z ha hb hp x w h => by
    have := Succs_own z (mvN a b x : Nat) w h (gSm a b z ha hb hp).1
    rw [succI_nat, hp.succ (by rw [hfl]; exact ha) (by rw [hfl]; exact hb)] at this
    exact this
  have gOL : ∀ (a b : Nat) (z : LFn), 0 < a → 0 < b → a < f.bs.length → b < f.bs.length → Perm a b (fnD f).bs (fnD z).bs → OrderIs (succP (fnD z).bs) z.bs.length (L.map (mvN a b)) := fun a b z h0 h1 ha hb hp => by
    rw [(gSm a b z ha hb hp).2]
    exact order_mv (fun x => hp.succ (by rw [hfl]; exact ha) (by rw [hfl]; exact hb) x) h0 h1 hL
  have gOr : ∀ (a b : Nat) (z : LFn), 0 < a → 0 < b → a < f.bs.length → b < f.bs.length → Perm a b (fnD f).bs (fnD z).bs → ∀ w, FnIn w.heap.size w z → Calls Try.prog 16 #[.agg (fnC z).toArray] w (OwnInts (L.map (mvN a b)) w) := fun a b z h0 h1 ha hb hp w h =>
    Order_own z w h (gSm a b z ha hb hp).1 (by rw [(gSm a b z ha hb hp).2]; exact hbs) _ (gOL a b z h0 h1 ha hb hp)
  have gRe : ∀ (a b : Nat) (z : LFn), 0 < a → 0 < b → a < f.bs.length → b < f.bs.length → Perm a b (fnD f).bs (fnD z).bs → ∀ w, FnIn w.heap.size w z → Calls Try.prog 14 #[.agg (fnC z).toArray] w (OwnBools f.bs.length (fun i => decide (i ∈ L.map (mvN a b))) w) := fun a b z h0 h1 ha hb hp w h => by
    have := Reach_own z w h (gSm a b z ha hb hp).1 (by rw [(gSm a b z ha hb hp).2]; exact hbs) _ (gOL a b z h0 h1 ha hb hp)
    rw [(gSm a b z ha hb hp).2] at this
    exact this
  have cRe : ∀ w, Below W.heap.size W w → Calls Try.prog 14 #[.agg (fnC f).toArray] w (OwnBools f.bs.length (fun i => decide (i ∈ L)) w) := fun w h => Reach_own f w (cF w h) hs hbs L hL
  have cSu : ∀ (b : Nat) w, Below W.heap.size W w → Calls Try.prog 11 #[.agg (fnC f).toArray, .int .i64 b] w (OwnInts (succP (fnD f).bs b) w) := fun b w h => by
    have := Succs_own f b w (cF w h) hs
    rw [succI_nat] at this
    exact this
  obtain ⟨S, eS⟩ : ∃ S, succP (fnD f).bs = S := ⟨_, rfl⟩
  obtain ⟨D, eD⟩ : ∃ D, (fnD f).bs = D := ⟨_, rfl⟩
  simp only [eS] at hSn hO cSu gSu
  simp only [eD] at cSw gSu gOr gRe
  obtain ⟨nm, pp, pn, pc, ps, rt, bp, bn, bc, bs⟩ := f
  obtain rfl : bn = bs.length := hf.2.1
  show Calls Try.prog 6 #[.agg #[.string nm, .slice pp pn pc, .int .i64 rt, .slice bp bs.length bc], .int .i64 av, .int .i64 bv] W _
  have hfc : fnC ⟨nm, pp, pn, pc, ps, rt, bp, bs.length, bc, bs⟩ = [.string nm, .slice pp pn pc, .int .i64 rt, .slice bp bs.length bc] := rfl
  rw [hfc] at A1 hP
  simp only [hfc] at cLo cOr cRe cSu cSw
  obtain ⟨n, en⟩ : ∃ n, bs.length = n := ⟨_, rfl⟩
  simp only [en] at cLo cOr cRe cSu cSw gSu gOr gRe A1 hP hbs hSn hO ⊢
  have HC := Lib.hid (And.intro cLo (And.intro cOr (And.intro cRe (And.intro cSu cSw))))
  have HG := Lib.hid (And.intro gSu (And.intro gOr gRe))
  have HB := Lib.hid (And.intro hP A1)
  have HO := Lib.hid (And.intro hO hSn)
  clear cLo cOr cRe cSu cSw gSm gSu gOL gOr gRe hP A1 hO hSn cF hfc hf hs hL eS en eD hw hz hfl
  go_enter Try.func6, Try.ntmps6
  go_wp2_with fail
  refine (cl _).mono ?_
  rintro e w1 ⟨rfl, hb1⟩
  have H1 := Lib.hid (And.intro (HB.out.1.trans ⟨HB.out.1.size, hb1.mono HB.out.1.size⟩) (HB.out.2.later hb1))
  clear hb1 cl HB
  have b0 := H1.out.2.get 0 _ rfl
  have b1 := H1.out.2.get 1 _ rfl
  have b2 := H1.out.2.get 2 _ rfl
  have b3 := H1.out.2.get 3 _ rfl
  have c1 := HC.out.1 w1 H1.out.1.2
  go_wp2_with fail
  refine c1.mono ?_
  rintro e w2 ⟨bl, rfl, hb2⟩
  have H2 := Lib.hid (And.intro (H1.out.1.trans ⟨H1.out.1.size, hb2.mono H1.out.1.size⟩) (H1.out.2.later hb2))
  clear hb2 c1 H1 b0 b1 b2 b3
  cases bl
  case true =>
    go_wp2
    go_ret
    exact ⟨rfl, H2.out.1.2⟩
  have b3 := H2.out.2.get 3 _ rfl
  by_cases hn3 : n < 3
  · have hd : decide (n < 3) = true := by simp; omega
    have hd2 : decide ((n : Int) < 3) = true := by simp; omega
    clear hn3
    go_wp2_with fail
    go_ret
    exact ⟨rfl, H2.out.1.2⟩
  · have hd : decide (n < 3) = false := by simp; omega
    have hd2 : decide ((n : Int) < 3) = false := by simp; omega
    clear b3
    go_upto_region 6 with fail
    go_cut [1, 2] (fun s1 s2 wx => ∃ A B : Nat, s1 = .int .i64 A ∧ s2 = .int .i64 B ∧ 0 < A ∧ A < n ∧ 0 < B ∧ B < n ∧ Below w2.heap.size w2 wx)
    case first =>
      have hw1 : IntKind.i64.wrap ((n : Int) - 1) = (n : Int) - 1 := IntWalk.i64_in _ (by omega)
      go_quiet (fail)
      all_goals
        go_wp2_with fail
        go_meet
        obtain ⟨A, hA, hA1, hA2⟩ := place_of2 av n (by omega) hbs
        obtain ⟨B, hB, hB1, hB2⟩ := place_of2 bv n (by omega) hbs
        exact ⟨A, B, by rw [hA], by rw [hB], hA1, hA2, hB1, hB2, below_drewN _ _ _⟩
    case rest =>
      obtain ⟨a, b, rfl, rfl, ha0, han, hb0, hbn, hbw⟩ := hcut
      generalize wc = w3 at *
      clear hd hd2 hn3
      have H3 := Lib.hid (And.intro (H2.out.1.trans ⟨H2.out.1.size, hbw.mono H2.out.1.size⟩) (H2.out.2.later hbw))
      clear H2 hbw
      have b0 := H3.out.2.get 0 _ rfl
      have b1 := H3.out.2.get 1 _ rfl
      have b2 := H3.out.2.get 2 _ rfl
      have b3 := H3.out.2.get 3 _ rfl
      have c1 := HC.out.2.2.2.2 a b han hbn w3 H3.out.1.2
      go_wp2_with fail
      refine c1.mono ?_
      rintro e w4 ⟨z, he, hpm, hp4, hz4⟩
      obtain ⟨nm1, pp1, pn1, pc1, ps1, rt1, bp1, bn1, bc1, bs1⟩ := z
      obtain rfl : e = .returned (.agg #[.string nm1, .slice pp1 pn1 pc1, .int .i64 rt1, .slice bp1 bn1 bc1]) := he
      obtain ⟨z, ez⟩ : ∃ z : LFn, z = ⟨nm1, pp1, pn1, pc1, ps1, rt1, bp1, bn1, bc1, bs1⟩ := ⟨_, rfl⟩
      rw [← ez] at hpm hz4
      have hyc : fnC z = [.string nm1, .slice pp1 pn1 pc1, .int .i64 rt1, .slice bp1 bn1 bc1] := by rw [ez]; rfl
      have gSu := HG.out.1 a b z han hbn hpm
      have gOr := HG.out.2.1 a b z ha0 hb0 han hbn hpm
      have gRe := HG.out.2.2 a b z ha0 hb0 han hbn hpm
      simp only [hyc] at gSu gOr gRe
      obtain ⟨L', eL'⟩ : ∃ L', L.map (mvN a b) = L' := ⟨_, rfl⟩
      rw [eL'] at gOr gRe
      have HL' := Lib.hid eL'
      have HN := Lib.hid (And.intro gSu (And.intro gOr gRe))
      have T5 : TG W [.string nm, .slice pp pn pc, .int .i64 rt, .slice bp n bc] [.string nm1, .slice pp1 pn1 pc1, .int .i64 rt1, .slice bp1 bn1 bc1] w4.heap.size z (w4.alloc (.cells #[.string nm1, .slice pp1 pn1 pc1, .int .i64 rt1, .slice bp1 bn1 bc1] 25)) := by
        have hp : Past W.heap.size W w4 := H3.out.1.trans ⟨H3.out.1.size, hp4.2.mono H3.out.1.size⟩
        exact ⟨hp.alloc _, (H3.out.2.later hp4.2).alloc _, Box.new w4 rfl _ _, FnIn.all hz4 _ ((Below.refl w4.heap.size w4).alloc (Nat.le_refl _) _)⟩
      have HT4 := Lib.hid T5
      have hpf : W.heap.size < w4.heap.size := Nat.lt_of_lt_of_le H3.out.2.1 hp4.2.size
      clear c1 b0 b1 b2 b3 gSu gOr gRe hyc ez hpm hz4 hp4 T5 H3 HG eL'
      go_upto_region 8 with fail
      obtain ⟨w5, ew5⟩ : ∃ w5, (w4.alloc (.cells #[.string nm1, .slice pp1 pn1 pc1, .int .i64 rt1, .slice bp1 bn1 bc1] 25)) = w5 := ⟨_, rfl⟩
      simp only [ew5] at HT4 ⊢
      clear ew5
      obtain ⟨bm, ebm⟩ : ∃ bm, w4.heap.size = bm := ⟨_, rfl⟩
      simp only [ebm] at HT4 hpf ⊢
      clear ebm
      go_cut [9, 10, 11, 12] (fun s9 s10 s11 s12 wx => FourO W [.string nm, .slice pp pn pc, .int .i64 rt, .slice bp n bc] [.string nm1, .slice pp1 pn1 pc1, .int .i64 rt1, .slice bp1 bn1 bc1] bm z n L L' s9 s10 s11 s12 wx)
      case first =>
        have HS : ∀ w w' : World, (w.cell? ⟨W.heap.size, 0, none⟩ = some (.string nm) ∧ w.cell? ⟨W.heap.size, 1, none⟩ = some (.slice pp pn pc) ∧ w.cell? ⟨W.heap.size, 2, none⟩ = some (.int .i64 rt) ∧ w.cell? ⟨W.heap.size, 3, none⟩ = some (.slice bp n bc) ∧ w.cell? ⟨bm, 0, none⟩ = some (.string nm1) ∧ w.cell? ⟨bm, 1, none⟩ = some (.slice pp1 pn1 pc1) ∧ w.cell? ⟨bm, 2, none⟩ = some (.int .i64 rt1) ∧ w.cell? ⟨bm, 3, none⟩ = some (.slice bp1 bn1 bc1) ∧ W.heap.size < w.heap.size ∧ bm < w.heap.size ∧ Below W.heap.size W w) → Below w.heap.size w w' → (w'.cell? ⟨W.heap.size, 0, none⟩ = some (.string nm) ∧ w'.cell? ⟨W.heap.size, 1, none⟩ = some (.slice pp pn pc) ∧ w'.cell? ⟨W.heap.size, 2, none⟩ = some (.int .i64 rt) ∧ w'.cell? ⟨W.heap.size, 3, none⟩ = some (.slice bp n bc) ∧ w'.cell? ⟨bm, 0, none⟩ = some (.string nm1) ∧ w'.cell? ⟨bm, 1, none⟩ = some (.slice pp1 pn1 pc1) ∧ w'.cell? ⟨bm, 2, none⟩ = some (.int .i64 rt1) ∧ w'.cell? ⟨bm, 3, none⟩ = some (.slice bp1 bn1 bc1) ∧ W.heap.size < w'.heap.size ∧ bm < w'.heap.size ∧ Below W.heap.size W w') := by
          rintro w w' ⟨q0, q1, q2, q3, q4, q5, q6, q7, q8, q9, q10⟩ hb
          exact ⟨(hb.cell (p := ⟨W.heap.size, 0, none⟩) q8).trans q0, (hb.cell (p := ⟨W.heap.size, 1, none⟩) q8).trans q1, (hb.cell (p := ⟨W.heap.size, 2, none⟩) q8).trans q2, (hb.cell (p := ⟨W.heap.size, 3, none⟩) q8).trans q3, (hb.cell (p := ⟨bm, 0, none⟩) q9).trans q4, (hb.cell (p := ⟨bm, 1, none⟩) q9).trans q5, (hb.cell (p := ⟨bm, 2, none⟩) q9).trans q6, (hb.cell (p := ⟨bm, 3, none⟩) q9).trans q7, Nat.lt_of_lt_of_le q8 hb.size, Nat.lt_of_lt_of_le q9 hb.size, q10.trans (hb.mono (Nat.le_of_lt q8))⟩
        have hS4 : w5.cell? ⟨W.heap.size, 0, none⟩ = some (.string nm) ∧ w5.cell? ⟨W.heap.size, 1, none⟩ = some (.slice pp pn pc) ∧ w5.cell? ⟨W.heap.size, 2, none⟩ = some (.int .i64 rt) ∧ w5.cell? ⟨W.heap.size, 3, none⟩ = some (.slice bp n bc) ∧ w5.cell? ⟨bm, 0, none⟩ = some (.string nm1) ∧ w5.cell? ⟨bm, 1, none⟩ = some (.slice pp1 pn1 pc1) ∧ w5.cell? ⟨bm, 2, none⟩ = some (.int .i64 rt1) ∧ w5.cell? ⟨bm, 3, none⟩ = some (.slice bp1 bn1 bc1) ∧ W.heap.size < w5.heap.size ∧ bm < w5.heap.size ∧ Below W.heap.size W w5 := ⟨HT4.out.box.get 0 _ rfl, HT4.out.box.get 1 _ rfl, HT4.out.box.get 2 _ rfl, HT4.out.box.get 3 _ rfl, HT4.out.mbox.get 0 _ rfl, HT4.out.mbox.get 1 _ rfl, HT4.out.mbox.get 2 _ rfl, HT4.out.mbox.get 3 _ rfl, HT4.out.box.1, HT4.out.mbox.1, HT4.out.past.2⟩
        obtain ⟨k0, k1, k2, k3, k4, k5, k6, k7, k8, k9, k10⟩ := hS4
        have kh : Hold [(fun u => TG W [.string nm, .slice pp pn pc, .int .i64 rt, .slice bp n bc] [.string nm1, .slice pp1 pn1 pc1, .int .i64 rt1, .slice bp1 bn1 bc1] bm z u)] w5 := Hold.one HT4.out.all
        have cA : ∀ w, ((w.cell? ⟨W.heap.size, 0, none⟩ = some (.string nm) ∧ w.cell? ⟨W.heap.size, 1, none⟩ = some (.slice pp pn pc) ∧ w.cell? ⟨W.heap.size, 2, none⟩ = some (.int .i64 rt) ∧ w.cell? ⟨W.heap.size, 3, none⟩ = some (.slice bp n bc) ∧ w.cell? ⟨bm, 0, none⟩ = some (.string nm1) ∧ w.cell? ⟨bm, 1, none⟩ = some (.slice pp1 pn1 pc1) ∧ w.cell? ⟨bm, 2, none⟩ = some (.int .i64 rt1) ∧ w.cell? ⟨bm, 3, none⟩ = some (.slice bp1 bn1 bc1) ∧ W.heap.size < w.heap.size ∧ bm < w.heap.size ∧ Below W.heap.size W w) ∧ Hold [(fun u => TG W [.string nm, .slice pp pn pc, .int .i64 rt, .slice bp n bc] [.string nm1, .slice pp1 pn1 pc1, .int .i64 rt1, .slice bp1 bn1 bc1] bm z u)] w) → Calls Try.prog 16 #[.agg #[.string nm, .slice pp pn pc, .int .i64 rt, .slice bp n bc]] w fun e w' => ∃ p c, e = .returned (.slice p L.length c) ∧ w'.cell? ⟨W.heap.size, 0, none⟩ = some (.string nm) ∧ w'.cell? ⟨W.heap.size, 1, none⟩ = some (.slice pp pn pc) ∧ w'.cell? ⟨W.heap.size, 2, none⟩ = some (.int .i64 rt) ∧ w'.cell? ⟨W.heap.size, 3, none⟩ = some (.slice bp n bc) ∧ w'.cell? ⟨bm, 0, none⟩ = some (.string nm1) ∧ w'.cell? ⟨bm, 1, none⟩ = some (.slice pp1 pn1 pc1) ∧ w'.cell? ⟨bm, 2, none⟩ = some (.int .i64 rt1) ∧ w'.cell? ⟨bm, 3, none⟩ = some (.slice bp1 bn1 bc1) ∧ W.heap.size < w'.heap.size ∧ bm < w'.heap.size ∧ Below W.heap.size W w' ∧ Hold [OrdQ p c L, (fun u => TG W [.string nm, .slice pp pn pc, .int .i64 rt, .slice bp n bc] [.string nm1, .slice pp1 pn1 pc1, .int .i64 rt1, .slice bp1 bn1 bc1] bm z u)] w' := by
          rintro w ⟨k, kh⟩
          refine (HC.out.2.1 w k.2.2.2.2.2.2.2.2.2.2).mono ?_
          rintro e w' ⟨p, c, he, hp, hl⟩
          obtain ⟨q0, q1, q2, q3, q4, q5, q6, q7, q8, q9, q10⟩ := HS w w' k hp.2
          exact ⟨p, c, he, q0, q1, q2, q3, q4, q5, q6, q7, q8, q9, q10, kh.cons hp.2 (OrdQ.all (ints_in hl (Nat.le_refl _)))⟩
        have cB : ∀ p c w, ((w.cell? ⟨W.heap.size, 0, none⟩ = some (.string nm) ∧ w.cell? ⟨W.heap.size, 1, none⟩ = some (.slice pp pn pc) ∧ w.cell? ⟨W.heap.size, 2, none⟩ = some (.int .i64 rt) ∧ w.cell? ⟨W.heap.size, 3, none⟩ = some (.slice bp n bc) ∧ w.cell? ⟨bm, 0, none⟩ = some (.string nm1) ∧ w.cell? ⟨bm, 1, none⟩ = some (.slice pp1 pn1 pc1) ∧ w.cell? ⟨bm, 2, none⟩ = some (.int .i64 rt1) ∧ w.cell? ⟨bm, 3, none⟩ = some (.slice bp1 bn1 bc1) ∧ W.heap.size < w.heap.size ∧ bm < w.heap.size ∧ Below W.heap.size W w) ∧ Hold [OrdQ p c L, (fun u => TG W [.string nm, .slice pp pn pc, .int .i64 rt, .slice bp n bc] [.string nm1, .slice pp1 pn1 pc1, .int .i64 rt1, .slice bp1 bn1 bc1] bm z u)] w) → Calls Try.prog 16 #[.agg #[.string nm1, .slice pp1 pn1 pc1, .int .i64 rt1, .slice bp1 bn1 bc1]] w fun e w' => ∃ p2 c2, e = .returned (.slice p2 L'.length c2) ∧ w'.cell? ⟨W.heap.size, 0, none⟩ = some (.string nm) ∧ w'.cell? ⟨W.heap.size, 1, none⟩ = some (.slice pp pn pc) ∧ w'.cell? ⟨W.heap.size, 2, none⟩ = some (.int .i64 rt) ∧ w'.cell? ⟨W.heap.size, 3, none⟩ = some (.slice bp n bc) ∧ w'.cell? ⟨bm, 0, none⟩ = some (.string nm1) ∧ w'.cell? ⟨bm, 1, none⟩ = some (.slice pp1 pn1 pc1) ∧ w'.cell? ⟨bm, 2, none⟩ = some (.int .i64 rt1) ∧ w'.cell? ⟨bm, 3, none⟩ = some (.slice bp1 bn1 bc1) ∧ W.heap.size < w'.heap.size ∧ bm < w'.heap.size ∧ Below W.heap.size W w' ∧ Hold [OrdQ p2 c2 L', OrdQ p c L, (fun u => TG W [.string nm, .slice pp pn pc, .int .i64 rt, .slice bp n bc] [.string nm1, .slice pp1 pn1 pc1, .int .i64 rt1, .slice bp1 bn1 bc1] bm z u)] w' := by
          rintro p c w ⟨k, kh⟩
          refine (HN.out.2.1 w (kh.get (fun u => TG W [.string nm, .slice pp pn pc, .int .i64 rt, .slice bp n bc] [.string nm1, .slice pp1 pn1 pc1, .int .i64 rt1, .slice bp1 bn1 bc1] bm z u) (.tail _ (.head _))).fin).mono ?_
          rintro e w' ⟨p2, c2, he, hp, hl⟩
          obtain ⟨q0, q1, q2, q3, q4, q5, q6, q7, q8, q9, q10⟩ := HS w w' k hp.2
          exact ⟨p2, c2, he, q0, q1, q2, q3, q4, q5, q6, q7, q8, q9, q10, kh.cons hp.2 (OrdQ.all (ints_in hl (Nat.le_refl _)))⟩
        have cD : ∀ p c p2 c2 w, ((w.cell? ⟨W.heap.size, 0, none⟩ = some (.string nm) ∧ w.cell? ⟨W.heap.size, 1, none⟩ = some (.slice pp pn pc) ∧ w.cell? ⟨W.heap.size, 2, none⟩ = some (.int .i64 rt) ∧ w.cell? ⟨W.heap.size, 3, none⟩ = some (.slice bp n bc) ∧ w.cell? ⟨bm, 0, none⟩ = some (.string nm1) ∧ w.cell? ⟨bm, 1, none⟩ = some (.slice pp1 pn1 pc1) ∧ w.cell? ⟨bm, 2, none⟩ = some (.int .i64 rt1) ∧ w.cell? ⟨bm, 3, none⟩ = some (.slice bp1 bn1 bc1) ∧ W.heap.size < w.heap.size ∧ bm < w.heap.size ∧ Below W.heap.size W w) ∧ Hold [OrdQ p2 c2 L', OrdQ p c L, (fun u => TG W [.string nm, .slice pp pn pc, .int .i64 rt, .slice bp n bc] [.string nm1, .slice pp1 pn1 pc1, .int .i64 rt1, .slice bp1 bn1 bc1] bm z u)] w) → Calls Try.prog 14 #[.agg #[.string nm, .slice pp pn pc, .int .i64 rt, .slice bp n bc]] w fun e w' => ∃ R, e = .returned (.slice (some ⟨R, 0, none⟩) n n) ∧ w'.cell? ⟨W.heap.size, 0, none⟩ = some (.string nm) ∧ w'.cell? ⟨W.heap.size, 1, none⟩ = some (.slice pp pn pc) ∧ w'.cell? ⟨W.heap.size, 2, none⟩ = some (.int .i64 rt) ∧ w'.cell? ⟨W.heap.size, 3, none⟩ = some (.slice bp n bc) ∧ w'.cell? ⟨bm, 0, none⟩ = some (.string nm1) ∧ w'.cell? ⟨bm, 1, none⟩ = some (.slice pp1 pn1 pc1) ∧ w'.cell? ⟨bm, 2, none⟩ = some (.int .i64 rt1) ∧ w'.cell? ⟨bm, 3, none⟩ = some (.slice bp1 bn1 bc1) ∧ W.heap.size < w'.heap.size ∧ bm < w'.heap.size ∧ Below W.heap.size W w' ∧ Hold [ReachQ R n L, OrdQ p2 c2 L', OrdQ p c L, (fun u => TG W [.string nm, .slice pp pn pc, .int .i64 rt, .slice bp n bc] [.string nm1, .slice pp1 pn1 pc1, .int .i64 rt1, .slice bp1 bn1 bc1] bm z u)] w' := by
          rintro p c p2 c2 w ⟨k, kh⟩
          refine (HC.out.2.2.1 w k.2.2.2.2.2.2.2.2.2.2).mono ?_
          rintro e w' ⟨R, he, hp, hR, hl⟩
          obtain ⟨q0, q1, q2, q3, q4, q5, q6, q7, q8, q9, q10⟩ := HS w w' k hp.2
          exact ⟨R, he, q0, q1, q2, q3, q4, q5, q6, q7, q8, q9, q10, kh.cons hp.2 (ReachQ.all hl)⟩
        have cE : ∀ p c p2 c2 R w, ((w.cell? ⟨W.heap.size, 0, none⟩ = some (.string nm) ∧ w.cell? ⟨W.heap.size, 1, none⟩ = some (.slice pp pn pc) ∧ w.cell? ⟨W.heap.size, 2, none⟩ = some (.int .i64 rt) ∧ w.cell? ⟨W.heap.size, 3, none⟩ = some (.slice bp n bc) ∧ w.cell? ⟨bm, 0, none⟩ = some (.string nm1) ∧ w.cell? ⟨bm, 1, none⟩ = some (.slice pp1 pn1 pc1) ∧ w.cell? ⟨bm, 2, none⟩ = some (.int .i64 rt1) ∧ w.cell? ⟨bm, 3, none⟩ = some (.slice bp1 bn1 bc1) ∧ W.heap.size < w.heap.size ∧ bm < w.heap.size ∧ Below W.heap.size W w) ∧ Hold [ReachQ R n L, OrdQ p2 c2 L', OrdQ p c L, (fun u => TG W [.string nm, .slice pp pn pc, .int .i64 rt, .slice bp n bc] [.string nm1, .slice pp1 pn1 pc1, .int .i64 rt1, .slice bp1 bn1 bc1] bm z u)] w) → Calls Try.prog 14 #[.agg #[.string nm1, .slice pp1 pn1 pc1, .int .i64 rt1, .slice bp1 bn1 bc1]] w fun e w' => ∃ R2, e = .returned (.slice (some ⟨R2, 0, none⟩) n n) ∧ w'.cell? ⟨W.heap.size, 0, none⟩ = some (.string nm) ∧ w'.cell? ⟨W.heap.size, 1, none⟩ = some (.slice pp pn pc) ∧ w'.cell? ⟨W.heap.size, 2, none⟩ = some (.int .i64 rt) ∧ w'.cell? ⟨W.heap.size, 3, none⟩ = some (.slice bp n bc) ∧ w'.cell? ⟨bm, 0, none⟩ = some (.string nm1) ∧ w'.cell? ⟨bm, 1, none⟩ = some (.slice pp1 pn1 pc1) ∧ w'.cell? ⟨bm, 2, none⟩ = some (.int .i64 rt1) ∧ w'.cell? ⟨bm, 3, none⟩ = some (.slice bp1 bn1 bc1) ∧ W.heap.size < w'.heap.size ∧ bm < w'.heap.size ∧ Below W.heap.size W w' ∧ Hold [ReachQ R2 n L', ReachQ R n L, OrdQ p2 c2 L', OrdQ p c L, (fun u => TG W [.string nm, .slice pp pn pc, .int .i64 rt, .slice bp n bc] [.string nm1, .slice pp1 pn1 pc1, .int .i64 rt1, .slice bp1 bn1 bc1] bm z u)] w' := by
          rintro p c p2 c2 R w ⟨k, kh⟩
          refine (HN.out.2.2 w (kh.get (fun u => TG W [.string nm, .slice pp pn pc, .int .i64 rt, .slice bp n bc] [.string nm1, .slice pp1 pn1 pc1, .int .i64 rt1, .slice bp1 bn1 bc1] bm z u) (.tail _ (.tail _ (.tail _ (.head _))))).fin).mono ?_
          rintro e w' ⟨R2, he, hp, hR, hl⟩
          obtain ⟨q0, q1, q2, q3, q4, q5, q6, q7, q8, q9, q10⟩ := HS w w' k hp.2
          exact ⟨R2, he, q0, q1, q2, q3, q4, q5, q6, q7, q8, q9, q10, kh.cons hp.2 (ReachQ.all hl)⟩
        clear HS
        go_region_held3 (fun w' => w'.cell? ⟨W.heap.size, 0, none⟩ = some (.string nm) ∧ w'.cell? ⟨W.heap.size, 1, none⟩ = some (.slice pp pn pc) ∧ w'.cell? ⟨W.heap.size, 2, none⟩ = some (.int .i64 rt) ∧ w'.cell? ⟨W.heap.size, 3, none⟩ = some (.slice bp n bc) ∧ w'.cell? ⟨bm, 0, none⟩ = some (.string nm1) ∧ w'.cell? ⟨bm, 1, none⟩ = some (.slice pp1 pn1 pc1) ∧ w'.cell? ⟨bm, 2, none⟩ = some (.int .i64 rt1) ∧ w'.cell? ⟨bm, 3, none⟩ = some (.slice bp1 bn1 bc1) ∧ W.heap.size < w'.heap.size ∧ bm < w'.heap.size ∧ Below W.heap.size W w')
          (((try dsimp only); (repeat' apply And.intro) <;> (first | (with_reducible assumption) | (rw [World.cell?_drew]; with_reducible assumption) | (with_reducible apply below_drew; with_reducible assumption) | (simp <;> omega))))
          (first
            | ((with_reducible refine' (cA _ ?pre).mono ?_)
               case pre => (refine ⟨⟨?_, ?_, ?_, ?_, ?_, ?_, ?_, ?_, ?_, ?_, ?_⟩, ?_⟩ <;> (first | (with_reducible assumption) | (rw [World.cell?_drew]; with_reducible assumption) | (with_reducible apply below_drew; with_reducible assumption) | (with_reducible apply Hold.drew; with_reducible assumption) | (simp <;> omega) | omega))
               rintro e wsa ⟨p1, c1, rfl, sa0, sa1, sa2, sa3, sa4, sa5, sa6, sa7, sa8, sa9, sa10, sah⟩)
            | ((with_reducible refine' (cB _ _ _ ?pre).mono ?_)
               case pre => (refine ⟨⟨?_, ?_, ?_, ?_, ?_, ?_, ?_, ?_, ?_, ?_, ?_⟩, ?_⟩ <;> (first | (with_reducible assumption) | (rw [World.cell?_drew]; with_reducible assumption) | (with_reducible apply below_drew; with_reducible assumption) | (with_reducible apply Hold.drew; with_reducible assumption) | (simp <;> omega) | omega))
               rintro e wsb ⟨p2, c2, rfl, sb0, sb1, sb2, sb3, sb4, sb5, sb6, sb7, sb8, sb9, sb10, sbh⟩)
            | ((with_reducible refine' (cD _ _ _ _ _ ?pre).mono ?_)
               case pre => (refine ⟨⟨?_, ?_, ?_, ?_, ?_, ?_, ?_, ?_, ?_, ?_, ?_⟩, ?_⟩ <;> (first | (with_reducible assumption) | (rw [World.cell?_drew]; with_reducible assumption) | (with_reducible apply below_drew; with_reducible assumption) | (with_reducible apply Hold.drew; with_reducible assumption) | (simp <;> omega) | omega))
               rintro e wsd ⟨R1, rfl, sd0, sd1, sd2, sd3, sd4, sd5, sd6, sd7, sd8, sd9, sd10, sdh⟩)
            | ((with_reducible refine' (cE _ _ _ _ _ _ ?pre).mono ?_)
               case pre => (refine ⟨⟨?_, ?_, ?_, ?_, ?_, ?_, ?_, ?_, ?_, ?_, ?_⟩, ?_⟩ <;> (first | (with_reducible assumption) | (rw [World.cell?_drew]; with_reducible assumption) | (with_reducible apply below_drew; with_reducible assumption) | (with_reducible apply Hold.drew; with_reducible assumption) | (simp <;> omega) | omega))
               rintro e wse ⟨R2, rfl, se0, se1, se2, se3, se4, se5, se6, se7, se8, se9, se10, seh⟩))
        all_goals
          go_wp2_with fail
          go_meet
          exact ⟨p1, c1, p2, c2, R1, R2, rfl, rfl, rfl, rfl, seh.get (fun u => TG W [.string nm, .slice pp pn pc, .int .i64 rt, .slice bp n bc] [.string nm1, .slice pp1 pn1 pc1, .int .i64 rt1, .slice bp1 bn1 bc1] bm z u) (.tail _ (.tail _ (.tail _ (.tail _ (.head _))))), seh.get (OrdQ p1 c1 L) (.tail _ (.tail _ (.tail _ (.head _)))), seh.get (OrdQ p2 c2 L') (.tail _ (.tail _ (.head _))), seh.get (ReachQ R1 n L) (.tail _ (.head _)), seh.get (ReachQ R2 n L') (.head _)⟩
      case rest =>
        obtain ⟨p1, c1, p2, c2, R1, R2, rfl, rfl, rfl, rfl, hT, ho1, ho2, hr1, hr2⟩ := hcut
        generalize wc = w6 at *
        have hl' : L'.length = L.length := by rw [← HL'.out, List.length_map]
        have hLn := nodup_lt n L HO.out.1.nd HO.out.1.lt
        have HQ := Lib.hid (And.intro hT (And.intro ho1 (And.intro ho2 (And.intro hr1 hr2))))
        simp only [hl']
        have HLL := Lib.hid hl'
        clear hT ho1 ho2 hr1 hr2 hl' HT4
        have hmem : Hid (∀ x, mvN a b x ∈ L' ↔ x ∈ L) := Lib.hid (fun x => by rw [← HL'.out]; exact mem_mv)
        go_wp2_with fail
        go_loopw [76] (fun t wr => ∃ i : Nat, i ≤ L.length ∧ t = .int .i64 i ∧ Below w6.heap.size w6 wr) (fun t _ => L.length - (intOf t).toNat)
        case atStart => exact ⟨0, Nat.zero_le _, rfl, Below.refl _ _⟩
        case round =>
          obtain ⟨i, hile, rfl, hb⟩ := hrel
          by_cases hlt : i < L.length
          · have hlt' : i < L'.length := by rw [HLL.out]; exact hlt
            obtain ⟨a1, rfl, ha1, hc1⟩ := int_row (OrdQ.all HQ.out.2.1 wr hb) i (by rw [ints_len]; exact hlt)
            obtain ⟨a2, rfl, ha2, hc2⟩ := int_row (OrdQ.all HQ.out.2.2.1 wr hb) i (by rw [ints_len]; exact hlt')
            rw [ints_get L i hlt] at hc1
            rw [ints_get L' i hlt'] at hc2
            have hmv : L'[i] = mvN a b L[i] := by simp only [← HL'.out, List.getElem_map]
            rw [hmv] at hc2
            obtain ⟨x, ex⟩ : ∃ x, L[i] = x := ⟨_, rfl⟩
            rw [ex] at hc1 hc2
            have cM := fun (w : World) => Moved_q x a b w
            obtain ⟨y, ey⟩ : ∃ y, mvN a b x = y := ⟨_, rfl⟩
            rw [ey] at hc2
            simp only [ey] at cM
            have HB := Lib.hid hb
            clear hb hmv ex ey hlt'
            go_wp2_with fail
            go_quiet ((go_at_call 24; exact Calls.quiet_of_same (cM _)))
            all_goals
              go_wp2_with fail
              exact ⟨⟨i + 1, by omega, by go_num, HB.out.trans (below_drewN _ _ _)⟩, by simp [intOf]; omega⟩
          · obtain rfl : i = L.length := by omega
            generalize wr = w7 at *
            have HB := Lib.hid hb
            clear hb
            go_wp2_with fail
            go_loopw [14] (fun t wr => ∃ x : Nat, x ≤ n ∧ t = .int .i64 x ∧ Below w7.heap.size w7 wr) (fun t _ => n - (intOf t).toNat)
            case atStart => exact ⟨0, Nat.zero_le _, rfl, Below.refl _ _⟩
            case round =>
              obtain ⟨x, hxn, rfl, hb⟩ := hrel
              have hb6 := HB.out.trans (hb.mono HB.out.size)
              by_cases hltx : x < n
              · have cM := fun (w : World) => Moved_q x a b w
                have hmx := hmem.out x
                have hyn := (mvN_lt (x := x) han hbn).2 hltx
                obtain ⟨y, ey⟩ : ∃ y, mvN a b x = y := ⟨_, rfl⟩
                simp only [ey] at cM hmx hyn
                have cr1 := (ReachQ.all HQ.out.2.2.2.1 wr hb6).cell hltx
                have cr2 := (ReachQ.all HQ.out.2.2.2.2 wr hb6).cell hyn
                have ed : decide (y ∈ L') = decide (x ∈ L) := by
                  by_cases e : x ∈ L
                  · simp [e, hmx.2 e]
                  · have e' : y ∉ L' := fun h => e (hmx.1 h)
                    simp [e, e']
                rw [ed] at cr2
                obtain ⟨dd, edd⟩ : ∃ dd, decide (x ∈ L) = dd := ⟨_, rfl⟩
                rw [edd] at cr1 cr2
                have HB6 := Lib.hid (And.intro hb hb6)
                have HEY := Lib.hid ey
                clear hb hb6 hmx ed edd ey
                have HS : ∀ w w' : World, (w.cell? ⟨W.heap.size, 0, none⟩ = some (.string nm) ∧ w.cell? ⟨W.heap.size, 1, none⟩ = some (.slice pp pn pc) ∧ w.cell? ⟨W.heap.size, 2, none⟩ = some (.int .i64 rt) ∧ w.cell? ⟨W.heap.size, 3, none⟩ = some (.slice bp n bc) ∧ w.cell? ⟨bm, 0, none⟩ = some (.string nm1) ∧ w.cell? ⟨bm, 1, none⟩ = some (.slice pp1 pn1 pc1) ∧ w.cell? ⟨bm, 2, none⟩ = some (.int .i64 rt1) ∧ w.cell? ⟨bm, 3, none⟩ = some (.slice bp1 bn1 bc1) ∧ W.heap.size < w.heap.size ∧ bm < w.heap.size ∧ Below W.heap.size W w) → Below w.heap.size w w' → (w'.cell? ⟨W.heap.size, 0, none⟩ = some (.string nm) ∧ w'.cell? ⟨W.heap.size, 1, none⟩ = some (.slice pp pn pc) ∧ w'.cell? ⟨W.heap.size, 2, none⟩ = some (.int .i64 rt) ∧ w'.cell? ⟨W.heap.size, 3, none⟩ = some (.slice bp n bc) ∧ w'.cell? ⟨bm, 0, none⟩ = some (.string nm1) ∧ w'.cell? ⟨bm, 1, none⟩ = some (.slice pp1 pn1 pc1) ∧ w'.cell? ⟨bm, 2, none⟩ = some (.int .i64 rt1) ∧ w'.cell? ⟨bm, 3, none⟩ = some (.slice bp1 bn1 bc1) ∧ W.heap.size < w'.heap.size ∧ bm < w'.heap.size ∧ Below W.heap.size W w') := by
                  rintro w w' ⟨q0, q1, q2, q3, q4, q5, q6, q7, q8, q9, q10⟩ hb
                  exact ⟨(hb.cell (p := ⟨W.heap.size, 0, none⟩) q8).trans q0, (hb.cell (p := ⟨W.heap.size, 1, none⟩) q8).trans q1, (hb.cell (p := ⟨W.heap.size, 2, none⟩) q8).trans q2, (hb.cell (p := ⟨W.heap.size, 3, none⟩) q8).trans q3, (hb.cell (p := ⟨bm, 0, none⟩) q9).trans q4, (hb.cell (p := ⟨bm, 1, none⟩) q9).trans q5, (hb.cell (p := ⟨bm, 2, none⟩) q9).trans q6, (hb.cell (p := ⟨bm, 3, none⟩) q9).trans q7, Nat.lt_of_lt_of_le q8 hb.size, Nat.lt_of_lt_of_le q9 hb.size, q10.trans (hb.mono (Nat.le_of_lt q8))⟩
                obtain ⟨T, eT⟩ : ∃ T, S x = T := ⟨_, rfl⟩
                obtain ⟨T', eT'⟩ : ∃ T', T.map (mvN a b) = T' := ⟨_, rfl⟩
                have hTl' : T'.length = T.length := by rw [← eT', List.length_map]
                have hTl : T.length ≤ n := by
                  have h1 := HO.out.2 x
                  rw [eT] at h1
                  exact nodup_lt n T h1.1 h1.2
                have cA : ∀ w8 w, ((w.cell? ⟨W.heap.size, 0, none⟩ = some (.string nm) ∧ w.cell? ⟨W.heap.size, 1, none⟩ = some (.slice pp pn pc) ∧ w.cell? ⟨W.heap.size, 2, none⟩ = some (.int .i64 rt) ∧ w.cell? ⟨W.heap.size, 3, none⟩ = some (.slice bp n bc) ∧ w.cell? ⟨bm, 0, none⟩ = some (.string nm1) ∧ w.cell? ⟨bm, 1, none⟩ = some (.slice pp1 pn1 pc1) ∧ w.cell? ⟨bm, 2, none⟩ = some (.int .i64 rt1) ∧ w.cell? ⟨bm, 3, none⟩ = some (.slice bp1 bn1 bc1) ∧ W.heap.size < w.heap.size ∧ bm < w.heap.size ∧ Below W.heap.size W w) ∧ Hold [(fun u => TG W [.string nm, .slice pp pn pc, .int .i64 rt, .slice bp n bc] [.string nm1, .slice pp1 pn1 pc1, .int .i64 rt1, .slice bp1 bn1 bc1] bm z u), fun u => Below w8.heap.size w8 u] w) → Calls Try.prog 11 #[.agg #[.string nm, .slice pp pn pc, .int .i64 rt, .slice bp n bc], .int .i64 x] w fun e w' => ∃ p c, e = .returned (.slice p T.length c) ∧ w'.cell? ⟨W.heap.size, 0, none⟩ = some (.string nm) ∧ w'.cell? ⟨W.heap.size, 1, none⟩ = some (.slice pp pn pc) ∧ w'.cell? ⟨W.heap.size, 2, none⟩ = some (.int .i64 rt) ∧ w'.cell? ⟨W.heap.size, 3, none⟩ = some (.slice bp n bc) ∧ w'.cell? ⟨bm, 0, none⟩ = some (.string nm1) ∧ w'.cell? ⟨bm, 1, none⟩ = some (.slice pp1 pn1 pc1) ∧ w'.cell? ⟨bm, 2, none⟩ = some (.int .i64 rt1) ∧ w'.cell? ⟨bm, 3, none⟩ = some (.slice bp1 bn1 bc1) ∧ W.heap.size < w'.heap.size ∧ bm < w'.heap.size ∧ Below W.heap.size W w' ∧ Hold [OrdQ p c T, (fun u => TG W [.string nm, .slice pp pn pc, .int .i64 rt, .slice bp n bc] [.string nm1, .slice pp1 pn1 pc1, .int .i64 rt1, .slice bp1 bn1 bc1] bm z u), fun u => Below w8.heap.size w8 u] w' := by
                  rintro w8 w ⟨k, kh⟩
                  have c0 := HC.out.2.2.2.1 x w k.2.2.2.2.2.2.2.2.2.2
                  rw [eT] at c0
                  refine c0.mono ?_
                  rintro e w' ⟨p, c, he, hp, hl⟩
                  obtain ⟨q0, q1, q2, q3, q4, q5, q6, q7, q8, q9, q10⟩ := HS w w' k hp.2
                  exact ⟨p, c, he, q0, q1, q2, q3, q4, q5, q6, q7, q8, q9, q10, kh.cons hp.2 (OrdQ.all (ints_in hl (Nat.le_refl _)))⟩
                have cMM : ∀ w8 p c w, ((w.cell? ⟨W.heap.size, 0, none⟩ = some (.string nm) ∧ w.cell? ⟨W.heap.size, 1, none⟩ = some (.slice pp pn pc) ∧ w.cell? ⟨W.heap.size, 2, none⟩ = some (.int .i64 rt) ∧ w.cell? ⟨W.heap.size, 3, none⟩ = some (.slice bp n bc) ∧ w.cell? ⟨bm, 0, none⟩ = some (.string nm1) ∧ w.cell? ⟨bm, 1, none⟩ = some (.slice pp1 pn1 pc1) ∧ w.cell? ⟨bm, 2, none⟩ = some (.int .i64 rt1) ∧ w.cell? ⟨bm, 3, none⟩ = some (.slice bp1 bn1 bc1) ∧ W.heap.size < w.heap.size ∧ bm < w.heap.size ∧ Below W.heap.size W w) ∧ Hold [OrdQ p c T, (fun u => TG W [.string nm, .slice pp pn pc, .int .i64 rt, .slice bp n bc] [.string nm1, .slice pp1 pn1 pc1, .int .i64 rt1, .slice bp1 bn1 bc1] bm z u), fun u => Below w8.heap.size w8 u] w) → Calls Try.prog 24 #[.int .i64 x, .int .i64 a, .int .i64 b] w fun e w' => e = .returned (.int .i64 y) ∧ w'.cell? ⟨W.heap.size, 0, none⟩ = some (.string nm) ∧ w'.cell? ⟨W.heap.size, 1, none⟩ = some (.slice pp pn pc) ∧ w'.cell? ⟨W.heap.size, 2, none⟩ = some (.int .i64 rt) ∧ w'.cell? ⟨W.heap.size, 3, none⟩ = some (.slice bp n bc) ∧ w'.cell? ⟨bm, 0, none⟩ = some (.string nm1) ∧ w'.cell? ⟨bm, 1, none⟩ = some (.slice pp1 pn1 pc1) ∧ w'.cell? ⟨bm, 2, none⟩ = some (.int .i64 rt1) ∧ w'.cell? ⟨bm, 3, none⟩ = some (.slice bp1 bn1 bc1) ∧ W.heap.size < w'.heap.size ∧ bm < w'.heap.size ∧ Below W.heap.size W w' ∧ Hold [OrdQ p c T, (fun u => TG W [.string nm, .slice pp pn pc, .int .i64 rt, .slice bp n bc] [.string nm1, .slice pp1 pn1 pc1, .int .i64 rt1, .slice bp1 bn1 bc1] bm z u), fun u => Below w8.heap.size w8 u] w' := by
                  rintro w8 p c w ⟨k, kh⟩
                  refine (cM w).mono ?_
                  rintro e w' ⟨he, rfl⟩
                  obtain ⟨q0, q1, q2, q3, q4, q5, q6, q7, q8, q9, q10⟩ := k
                  exact ⟨he, q0, q1, q2, q3, q4, q5, q6, q7, q8, q9, q10, kh⟩
                have cB : ∀ w8 p c w, ((w.cell? ⟨W.heap.size, 0, none⟩ = some (.string nm) ∧ w.cell? ⟨W.heap.size, 1, none⟩ = some (.slice pp pn pc) ∧ w.cell? ⟨W.heap.size, 2, none⟩ = some (.int .i64 rt) ∧ w.cell? ⟨W.heap.size, 3, none⟩ = some (.slice bp n bc) ∧ w.cell? ⟨bm, 0, none⟩ = some (.string nm1) ∧ w.cell? ⟨bm, 1, none⟩ = some (.slice pp1 pn1 pc1) ∧ w.cell? ⟨bm, 2, none⟩ = some (.int .i64 rt1) ∧ w.cell? ⟨bm, 3, none⟩ = some (.slice bp1 bn1 bc1) ∧ W.heap.size < w.heap.size ∧ bm < w.heap.size ∧ Below W.heap.size W w) ∧ Hold [OrdQ p c T, (fun u => TG W [.string nm, .slice pp pn pc, .int .i64 rt, .slice bp n bc] [.string nm1, .slice pp1 pn1 pc1, .int .i64 rt1, .slice bp1 bn1 bc1] bm z u), fun u => Below w8.heap.size w8 u] w) → Calls Try.prog 11 #[.agg #[.string nm1, .slice pp1 pn1 pc1, .int .i64 rt1, .slice bp1 bn1 bc1], .int .i64 y] w fun e w' => ∃ p2 c2, e = .returned (.slice p2 T'.length c2) ∧ w'.cell? ⟨W.heap.size, 0, none⟩ = some (.string nm) ∧ w'.cell? ⟨W.heap.size, 1, none⟩ = some (.slice pp pn pc) ∧ w'.cell? ⟨W.heap.size, 2, none⟩ = some (.int .i64 rt) ∧ w'.cell? ⟨W.heap.size, 3, none⟩ = some (.slice bp n bc) ∧ w'.cell? ⟨bm, 0, none⟩ = some (.string nm1) ∧ w'.cell? ⟨bm, 1, none⟩ = some (.slice pp1 pn1 pc1) ∧ w'.cell? ⟨bm, 2, none⟩ = some (.int .i64 rt1) ∧ w'.cell? ⟨bm, 3, none⟩ = some (.slice bp1 bn1 bc1) ∧ W.heap.size < w'.heap.size ∧ bm < w'.heap.size ∧ Below W.heap.size W w' ∧ Hold [OrdQ p2 c2 T', OrdQ p c T, (fun u => TG W [.string nm, .slice pp pn pc, .int .i64 rt, .slice bp n bc] [.string nm1, .slice pp1 pn1 pc1, .int .i64 rt1, .slice bp1 bn1 bc1] bm z u), fun u => Below w8.heap.size w8 u] w' := by
                  rintro w8 p c w ⟨k, kh⟩
                  have c0 := HN.out.1 x w (kh.get (fun u => TG W [.string nm, .slice pp pn pc, .int .i64 rt, .slice bp n bc] [.string nm1, .slice pp1 pn1 pc1, .int .i64 rt1, .slice bp1 bn1 bc1] bm z u) (.tail _ (.head _))).fin
                  rw [HEY.out, eT, eT'] at c0
                  refine c0.mono ?_
                  rintro e w' ⟨p2, c2, he, hp, hl⟩
                  obtain ⟨q0, q1, q2, q3, q4, q5, q6, q7, q8, q9, q10⟩ := HS w w' k hp.2
                  exact ⟨p2, c2, he, q0, q1, q2, q3, q4, q5, q6, q7, q8, q9, q10, kh.cons hp.2 (OrdQ.all (ints_in hl (Nat.le_refl _)))⟩
                have HTT := Lib.hid (And.intro eT' hTl')
                clear HS eT eT' hTl'
                cases dd
                all_goals
                  go_wp2_with fail
                  go_quiet ((go_at_call 24; exact Calls.quiet_of_same (cM _)))
                  all_goals
                    generalize hzd : World.drewN wr _ = wd at *
                    have hbd : Below wr.heap.size wr wd := hzd ▸ below_drewN _ _ _
                    have hT8 := HQ.out.1.later (HB6.out.2.trans (hbd.mono (Nat.le_trans (Nat.le_of_eq rfl) HB6.out.2.size)))
                    have HB8 := Lib.hid (HB6.out.1.trans (hbd.mono HB6.out.1.size))
                    have hS8 : wd.cell? ⟨W.heap.size, 0, none⟩ = some (.string nm) ∧ wd.cell? ⟨W.heap.size, 1, none⟩ = some (.slice pp pn pc) ∧ wd.cell? ⟨W.heap.size, 2, none⟩ = some (.int .i64 rt) ∧ wd.cell? ⟨W.heap.size, 3, none⟩ = some (.slice bp n bc) ∧ wd.cell? ⟨bm, 0, none⟩ = some (.string nm1) ∧ wd.cell? ⟨bm, 1, none⟩ = some (.slice pp1 pn1 pc1) ∧ wd.cell? ⟨bm, 2, none⟩ = some (.int .i64 rt1) ∧ wd.cell? ⟨bm, 3, none⟩ = some (.slice bp1 bn1 bc1) ∧ W.heap.size < wd.heap.size ∧ bm < wd.heap.size ∧ Below W.heap.size W wd := ⟨hT8.box.get 0 _ rfl, hT8.box.get 1 _ rfl, hT8.box.get 2 _ rfl, hT8.box.get 3 _ rfl, hT8.mbox.get 0 _ rfl, hT8.mbox.get 1 _ rfl, hT8.mbox.get 2 _ rfl, hT8.mbox.get 3 _ rfl, hT8.box.1, hT8.mbox.1, hT8.past.2⟩
                    obtain ⟨k0, k1, k2, k3, k4, k5, k6, k7, k8, k9, k10⟩ := hS8
                    have kh : Hold [(fun u => TG W [.string nm, .slice pp pn pc, .int .i64 rt, .slice bp n bc] [.string nm1, .slice pp1 pn1 pc1, .int .i64 rt1, .slice bp1 bn1 bc1] bm z u), fun u => Below wd.heap.size wd u] wd := fun R hR u hu => by
                      rcases List.mem_cons.1 hR with rfl | hR
                      · exact hT8.later hu
                      · obtain rfl := List.mem_singleton.1 hR
                        exact hu
                    clear hzd hbd hT8 cr1 cr2
                    go_wp2_with fail
                    go_region_held3 (fun w' => w'.cell? ⟨W.heap.size, 0, none⟩ = some (.string nm) ∧ w'.cell? ⟨W.heap.size, 1, none⟩ = some (.slice pp pn pc) ∧ w'.cell? ⟨W.heap.size, 2, none⟩ = some (.int .i64 rt) ∧ w'.cell? ⟨W.heap.size, 3, none⟩ = some (.slice bp n bc) ∧ w'.cell? ⟨bm, 0, none⟩ = some (.string nm1) ∧ w'.cell? ⟨bm, 1, none⟩ = some (.slice pp1 pn1 pc1) ∧ w'.cell? ⟨bm, 2, none⟩ = some (.int .i64 rt1) ∧ w'.cell? ⟨bm, 3, none⟩ = some (.slice bp1 bn1 bc1) ∧ W.heap.size < w'.heap.size ∧ bm < w'.heap.size ∧ Below W.heap.size W w')
                      (((try dsimp only); (repeat' apply And.intro) <;> (first | (with_reducible assumption) | (rw [World.cell?_drew]; with_reducible assumption) | (with_reducible apply below_drew; with_reducible assumption) | (simp <;> omega))))
                      (first
                        | ((with_reducible refine' (cA _ _ ?pre).mono ?_)
                           case pre => (refine ⟨⟨?_, ?_, ?_, ?_, ?_, ?_, ?_, ?_, ?_, ?_, ?_⟩, ?_⟩ <;> (first | (with_reducible assumption) | (rw [World.cell?_drew]; with_reducible assumption) | (with_reducible apply below_drew; with_reducible assumption) | (with_reducible apply Hold.drew; with_reducible assumption) | (simp <;> omega) | omega))
                           rintro e wsa ⟨q1, k1', rfl, sa0, sa1, sa2, sa3, sa4, sa5, sa6, sa7, sa8, sa9, sa10, sah⟩)
                        | ((with_reducible refine' (cMM _ _ _ _ ?pre).mono ?_)
                           case pre => (refine ⟨⟨?_, ?_, ?_, ?_, ?_, ?_, ?_, ?_, ?_, ?_, ?_⟩, ?_⟩ <;> (first | (with_reducible assumption) | (rw [World.cell?_drew]; with_reducible assumption) | (with_reducible apply below_drew; with_reducible assumption) | (with_reducible apply Hold.drew; with_reducible assumption) | (simp <;> omega) | omega))
                           rintro e wsm ⟨rfl, sm0, sm1, sm2, sm3, sm4, sm5, sm6, sm7, sm8, sm9, sm10, smh⟩)
                        | ((with_reducible refine' (cB _ _ _ _ ?pre).mono ?_)
                           case pre => (refine ⟨⟨?_, ?_, ?_, ?_, ?_, ?_, ?_, ?_, ?_, ?_, ?_⟩, ?_⟩ <;> (first | (with_reducible assumption) | (rw [World.cell?_drew]; with_reducible assumption) | (with_reducible apply below_drew; with_reducible assumption) | (with_reducible apply Hold.drew; with_reducible assumption) | (simp <;> omega) | omega))
                           rintro e wsb ⟨q2, k2', rfl, sb0, sb1, sb2, sb3, sb4, sb5, sb6, sb7, sb8, sb9, sb10, sbh⟩))
                    all_goals
                      have HSB := Lib.hid sbh
                      have hTl2 := HTT.out.2
                      simp only [hTl2]
                      clear hTl2 sb0 sb1 sb2 sb3 sb4 sb5 sb6 sb7 sb8 sb9 sb10 sbh cA cB cMM
                      have HO1 := Lib.hid (And.intro (HSB.out.get (OrdQ q1 k1' T) (.tail _ (.head _))) (And.intro (HSB.out.get (OrdQ q2 k2' T') (.head _)) (HSB.out.get (fun u => Below wd.heap.size wd u) (.tail _ (.tail _ (.tail _ (.head _)))))))
                      go_wp2_with fail
                      go_loopw [125] (fun t wr => ∃ j : Nat, j ≤ T.length ∧ t = .int .i64 j ∧ Below wsb.heap.size wsb wr) (fun t _ => T.length - (intOf t).toNat)
                      case atStart => exact ⟨0, Nat.zero_le _, rfl, Below.refl _ _⟩
                      case round =>
                        obtain ⟨j, hjle, rfl, hb⟩ := hrel
                        by_cases hltj : j < T.length
                        · have hlt' : j < T'.length := by rw [HTT.out.2]; exact hltj
                          obtain ⟨a1, rfl, ha1, hc1⟩ := int_row (OrdQ.all HO1.out.1 wr hb) j (by rw [ints_len]; exact hltj)
                          obtain ⟨a2, rfl, ha2, hc2⟩ := int_row (OrdQ.all HO1.out.2.1 wr hb) j (by rw [ints_len]; exact hlt')
                          rw [ints_get T j hltj] at hc1
                          rw [ints_get T' j hlt'] at hc2
                          have hmv : T'[j] = mvN a b T[j] := by simp only [← HTT.out.1, List.getElem_map]
                          rw [hmv] at hc2
                          obtain ⟨v, ev⟩ : ∃ v, T[j] = v := ⟨_, rfl⟩
                          rw [ev] at hc1 hc2
                          have cN := fun (w : World) => Moved_q v a b w
                          obtain ⟨u, eu⟩ : ∃ u, mvN a b v = u := ⟨_, rfl⟩
                          rw [eu] at hc2
                          simp only [eu] at cN
                          have HB := Lib.hid hb
                          clear hb hmv ev eu hlt'
                          go_wp2_with fail
                          go_quiet ((go_at_call 24; exact Calls.quiet_of_same (cN _)))
                          all_goals
                            go_wp2_with fail
                            exact ⟨⟨j + 1, by omega, by go_num, HB.out.trans (below_drewN _ _ _)⟩, by simp [intOf]; omega⟩
                        · obtain rfl : j = T.length := by omega
                          have HBF := Lib.hid (HB8.out.trans ((HO1.out.2.2.trans (hb.mono HO1.out.2.2.size)).mono HB8.out.size))
                          clear hb
                          go_wp2_with fail
                          exact ⟨⟨x + 1, by omega, by go_num, HBF.out⟩, by simp [intOf]; omega⟩
              · obtain rfl : x = n := by omega
                have HF := Lib.hid (HQ.out.1.past.2.trans (hb6.mono HQ.out.1.past.size))
                clear hb hb6
                go_wp2_with fail
                go_ret
                exact ⟨rfl, HF.out⟩
end Go.Proofs.Ytejnhdhfmklajaa
