/- The law DomPermutes: its walk. -/
import Derived.Test.YtphdhndljgihmaaPSwap
import Derived.Test.YtphdhndljgihmaaDLive
import Derived.Test.YtphdhndljgihmaaDClimb
import Derived.BigQuiet
namespace Go.Proofs.Ytphdhndljgihmaa
open Go.RowKit Go.Maps
set_option linter.unusedVariables false
set_option linter.unusedSimpArgs false

theorem Moved_nat (x a b : Nat) (W : World) : Calls Try.prog 29 #[.int .i64 x, .int .i64 a, .int .i64 b] W fun e w' => e = .returned (.int .i64 ((mvN a b x : Nat) : Int)) ∧ W = w' := by
  refine (Moved_any x a b W).mono ?_
  rintro e w' ⟨he, hw⟩
  exact ⟨by rw [he, mvI_nat], hw⟩
theorem wfI_small {b : Nat} (h : b ≤ 1048576) : wfI (b : Int) := by
  unfold wfI Lit.wf
  rw [Bool.and_eq_true]
  exact ⟨decide_eq_true (by show (-9223372036854775808 : Int) ≤ _; omega), decide_eq_true (by show _ ≤ (9223372036854775807 : Int); omega)⟩
theorem place_of2 (x : Int) (n : Nat) (hn : 3 ≤ n) (hb : n ≤ 1048576) : ∃ A : Nat, wrap64 (1 + wrap64 ((IntKind.u64.wrap x).tmod ((n : Int) - 1))) = (A : Int) ∧ 0 < A ∧ A < n := by
  have hu : 0 ≤ IntKind.u64.wrap x := by
    show 0 ≤ x % 18446744073709551616
    exact Int.emod_nonneg _ (by decide)
  obtain ⟨U, eU⟩ : ∃ U, IntKind.u64.wrap x = U := ⟨_, rfl⟩
  rw [eU] at hu ⊢
  have h1 : 0 ≤ U.tmod ((n : Int) - 1) := Int.tmod_nonneg _ hu
  have h2 : U.tmod ((n : Int) - 1) < (n : Int) - 1 := Int.tmod_lt_of_pos _ (by omega)
  obtain ⟨r, er⟩ : ∃ r, U.tmod ((n : Int) - 1) = r := ⟨_, rfl⟩
  rw [er] at h1 h2 ⊢
  have e1 : wrap64 r = r := IntWalk.wrap64_in _ (by omega)
  have e2 : wrap64 (1 + r) = 1 + r := IntWalk.wrap64_in _ (by omega)
  exact ⟨(1 + r).toNat, by rw [e1, e2]; omega, by omega, by omega⟩
theorem Moved_q (x a b : Nat) (W : World) : Calls Try.prog 29 #[.int .i64 x, .int .i64 a, .int .i64 b] W fun e w' => e = .returned (.int .i64 ((mvN a b x : Nat) : Int)) ∧ w' = W := (Moved_nat x a b W).mono fun _ _ ⟨h1, h2⟩ => ⟨h1, h2.symm⟩
theorem FnTw.tgt {f : LFn} (h : FnSm f) {a b : Nat} (ha : a ≤ 1048576) (hb : b ≤ 1048576) {z : LFn} (hp : Perm a b (fnD f).bs (fnD z).bs) (hab : a < f.bs.length ∧ b < f.bs.length) : FnSm z := by
  intro c hc
  have hm : blkD c ∈ (fnD z).bs := List.mem_map_of_mem hc
  obtain ⟨i, hi, e⟩ := List.mem_iff_getElem.1 hm
  have hl : (fnD f).bs.length = f.bs.length := by simp [fnD]
  have hj : mvN a b i < (fnD f).bs.length := by rw [hl, mvN_lt hab.1 hab.2, ← hl, ← hp.len]; exact hi
  have h1 := hp.get (mvN a b i) hj
  rw [mvN_mvN, List.getD_eq_getElem?_getD, List.getElem?_eq_getElem hi, List.getD_eq_getElem?_getD, List.getElem?_eq_getElem hj] at h1
  simp only [Option.getD_some] at h1
  rw [e] at h1
  have hm2 : (fnD f).bs[mvN a b i] ∈ (fnD f).bs := List.getElem_mem hj
  obtain ⟨c', hc', e'⟩ := List.mem_map.1 hm2
  have h2 := h c' hc'
  rw [h1, tgtP_mv, List.length_map, ← e']
  refine ⟨h2.1, fun t ht => ?_⟩
  obtain ⟨t', ht', rfl⟩ := List.mem_map.1 ht
  unfold mvI
  split
  · exact wfI_small hb
  · split
    · exact wfI_small ha
    · exact h2.2 t' ht'
theorem Moved_i (u : Int) (a b : Nat) (W : World) : Calls Try.prog 29 #[.int .i64 u, .int .i64 a, .int .i64 b] W fun e w' => e = .returned (.int .i64 (mvI a b u)) ∧ w' = W := (Moved_any u a b W).mono fun _ _ ⟨h1, h2⟩ => ⟨h1, h2.symm⟩
/-- Idom's row stands. -/
def UpQ (S : Nat → List Nat) (n R : Nat) (w : World) : Prop := w.rowIs R 3 n (fun b => .int .i64 (upI S b))
theorem UpQ.later {S : Nat → List Nat} {n R : Nat} {w u : World} (h : UpQ S n R w) (hb : Below w.heap.size w u) : UpQ S n R u := rowIs_kept h (below_grown hb) (by simp)
theorem UpQ.all {S : Nat → List Nat} {n R : Nat} {w : World} (h : UpQ S n R w) : ∀ u, Below w.heap.size w u → UpQ S n R u := fun u hu => h.later hu
theorem UpQ.cell {S : Nat → List Nat} {n R : Nat} {w u : World} (h : UpQ S n R w) (hb : Below w.heap.size w u) {i : Nat} (hi : i < n) : u.cell? ⟨R, i, none⟩ = some (.int .i64 (upI S i)) := World.rowIs.cell (h.later hb) hi
/-- The function that is changed about. -/
def ZIn (D : List (List PIns)) (a b : Nat) (cs : List Value) (w : World) : Prop := ∃ z : LFn, fnC z = cs ∧ Perm a b D (fnD z).bs ∧ FnIn w.heap.size w z
theorem ZIn.all {D : List (List PIns)} {a b : Nat} {cs : List Value} {w : World} (h : ZIn D a b cs w) : ∀ u, Below w.heap.size w u → ZIn D a b cs u := fun u hu => by
  obtain ⟨z, h1, h2, h3⟩ := h
  exact ⟨z, h1, h2, FnIn.all h3 u hu⟩
def UpsO (W : World) (n : Nat) (S S' : Nat → List Nat) (s8 s9 : Value) (w : World) : Prop :=
  ∃ R1 R2, s8 = .slice (some ⟨R1, 0, none⟩) n n ∧ s9 = .slice (some ⟨R2, 0, none⟩) n n ∧ Below W.heap.size W w ∧ UpQ S n R1 w ∧ UpQ S' n R2 w
set_option maxRecDepth 100000 in
set_option maxHeartbeats 16000000 in
theorem permutes_walk (W : World) (f : LFn) (av bv : Int) (hf : FnIn W.heap.size W f) (hs : FnSm f) (hbs : f.bs.length ≤ 1048576) (hw : FnTw f) (hz : fnZ (fnD f) ≤ 1048576) :
    Calls Try.prog 8 #[.agg (fnC f).toArray, .int .i64 av, .int .i64 bv] W fun e w' => e = .returned (.bool true) ∧ Below W.heap.size W w' := by
  have cl := lives_any
  have hP := (Past.refl (Nat.le_refl W.heap.size)).alloc (.cells (fnC f).toArray 25)
  have A1 : Box W.heap.size (fnC f) (W.alloc (.cells (fnC f).toArray 25)) := Box.new W rfl _ _
  have cF : ∀ w, Below W.heap.size W w → FnIn w.heap.size w f := fun w h => past_lasts lasts_Fn hf ⟨Nat.le_refl _, h⟩
  have cLo : ∀ w, Below W.heap.size W w → Calls Try.prog 11 #[.agg (fnC f).toArray] w (SomeBool w) := fun w h => long_any f w (cF w h) hbs
  have cId : ∀ w, Below W.heap.size W w → Calls Try.prog 18 #[.agg (fnC f).toArray] w (OwnUp (succP (fnD f).bs) f.bs.length w) := fun w h => Idom_own f w (cF w h) hs hbs
  have cSw : ∀ (a b : Nat), a < f.bs.length → b < f.bs.length → ∀ w, Below W.heap.size W w → Calls Try.prog 28 #[.agg (fnC f).toArray, .int .i64 a, .int .i64 b] w fun e w' => ∃ z, e = .returned (.agg (fnC z).toArray) ∧ Perm a b (fnD f).bs (fnD z).bs ∧ Past w.heap.size w w' ∧ FnIn w'.heap.size w' z := fun a b ha hb w h => Swapped_own f a b w (cF w h) hz ha hb
  have hfl : (fnD f).bs.length = f.bs.length := by simp [fnD]
  have gSm : ∀ (a b : Nat) (z : LFn), a < f.bs.length → b < f.bs.length → Perm a b (fnD f).bs (fnD z).bs → FnSm z ∧ z.bs.length = f.bs.length := fun a b z ha hb hp => ⟨FnTw.tgt hs (by omega) (by omega) hp ⟨ha, hb⟩, by have := hp.len; rw [hfl] at this; simpa [fnD] using this⟩
  have gId : ∀ (a b : Nat), a < f.bs.length → b < f.bs.length → ∀ (S' : Nat → List Nat), (∀ x, S' x = (succP (fnD f).bs (mvN a b x)).map (mvN a b)) → ∀ (z : LFn), Perm a b (fnD f).bs (fnD z).bs → ∀ w, FnIn w.heap.size w z → Calls Try.prog 18 #[.agg (fnC z).toArray] w (OwnUp S' f.bs.length w) := fun a b ha hb S' hS z hp w h => by
    have h1 := gSm a b z ha hb hp
    have := Idom_own z w h h1.1 (by rw [h1.2]; exact hbs)
    have e : succP (fnD z).bs = S' := by
      funext x
      have := hp.succ (by rw [hfl]; exact ha) (by rw [hfl]; exact hb) (mvN a b x)
      rw [mvN_mvN] at this
      rw [this, hS]
    rw [e, h1.2] at this
    exact this
  obtain ⟨S, eS⟩ : ∃ S, succP (fnD f).bs = S := ⟨_, rfl⟩
  obtain ⟨D, eD⟩ : ∃ D, (fnD f).bs = D := ⟨_, rfl⟩
  simp only [eS] at cId gId
  simp only [eD] at cSw gId
  obtain ⟨nm, pp, pn, pc, ps, rt, bp, bn, bc, bs⟩ := f
  obtain rfl : bn = bs.length := hf.2.1
  show Calls Try.prog 8 #[.agg #[.string nm, .slice pp pn pc, .int .i64 rt, .slice bp bs.length bc], .int .i64 av, .int .i64 bv] W _
  have hfc : fnC ⟨nm, pp, pn, pc, ps, rt, bp, bs.length, bc, bs⟩ = [.string nm, .slice pp pn pc, .int .i64 rt, .slice bp bs.length bc] := rfl
  rw [hfc] at A1 hP
  simp only [hfc] at cLo cId cSw
  obtain ⟨n, en⟩ : ∃ n, bs.length = n := ⟨_, rfl⟩
  simp only [en] at cLo cId cSw gId A1 hP hbs ⊢
  have HC := Lib.hid (And.intro cLo (And.intro cId cSw))
  have HG := Lib.hid gId
  have HB := Lib.hid (And.intro hP A1)
  clear cLo cId cSw gSm gId hP A1 cF hfc hf hs eS en eD hw hz hfl
  go_enter Try.func8, Try.ntmps8
  go_wp2_with fail
  refine (cl _).mono ?_
  rintro e w1 ⟨rfl, hb1⟩
  have H1 := Lib.hid (And.intro (HB.out.1.trans ⟨HB.out.1.size, hb1.mono HB.out.1.size⟩) (HB.out.2.later hb1))
  clear hb1 cl HB
  have b0 := H1.out.2.get 0 _ rfl
  have b1 := H1.out.2.get 1 _ rfl
  have b2 := H1.out.2.get 2 _ rfl
  have b3 := H1.out.2.get 3 _ rfl
  have c1 := HC.out.1 w1 H1.out.1.2
  go_wp2_with fail
  refine c1.mono ?_
  rintro e w2 ⟨bl, rfl, hb2⟩
  have H2 := Lib.hid (And.intro (H1.out.1.trans ⟨H1.out.1.size, hb2.mono H1.out.1.size⟩) (H1.out.2.later hb2))
  clear hb2 c1 H1 b0 b1 b2 b3
  cases bl
  case true =>
    go_wp2
    go_ret
    exact ⟨rfl, H2.out.1.2⟩
  by_cases hn3 : n < 3
  · have hd : decide (n < 3) = true := by simp; omega
    have hd2 : decide ((n : Int) < 3) = true := by simp; omega
    clear hn3
    go_wp2_with fail
    go_ret
    exact ⟨rfl, H2.out.1.2⟩
  · have hd : decide (n < 3) = false := by simp; omega
    have hd2 : decide ((n : Int) < 3) = false := by simp; omega
    go_upto_region 6 with fail
    go_cut [1, 2] (fun s1 s2 wx => ∃ A B : Nat, s1 = .int .i64 A ∧ s2 = .int .i64 B ∧ 0 < A ∧ A < n ∧ 0 < B ∧ B < n ∧ Below w2.heap.size w2 wx)
    case first =>
      have hw1 : IntKind.i64.wrap ((n : Int) - 1) = (n : Int) - 1 := IntWalk.i64_in _ (by omega)
      go_quiet (fail)
      all_goals
        go_wp2_with fail
        go_meet
        obtain ⟨A, hA, hA1, hA2⟩ := place_of2 av n (by omega) hbs
        obtain ⟨B, hB, hB1, hB2⟩ := place_of2 bv n (by omega) hbs
        exact ⟨A, B, by rw [hA], by rw [hB], hA1, hA2, hB1, hB2, below_drewN _ _ _⟩
    case rest =>
      obtain ⟨a, b, rfl, rfl, ha0, han, hb0, hbn, hbw⟩ := hcut
      generalize wc = w3 at *
      clear hd hd2 hn3
      have H3 := Lib.hid (And.intro (H2.out.1.trans ⟨H2.out.1.size, hbw.mono H2.out.1.size⟩) (H2.out.2.later hbw))
      clear H2 hbw
      obtain ⟨S', eS'⟩ : ∃ S' : Nat → List Nat, (∀ x, S' x = (S (mvN a b x)).map (mvN a b)) := ⟨fun x => (S (mvN a b x)).map (mvN a b), fun x => rfl⟩
      have HU : Hid (∀ x, upI S' (mvN a b x) = mvI a b (upI S x)) := Lib.hid (fun x => upI_mv ha0 hb0 (fun y => by rw [eS', mvN_mvN]) x)
      have gI := HG.out a b han hbn S' eS'
      go_upto_region 7 with fail
      go_cut [8, 9] (fun s8 s9 wx => UpsO W n S S' s8 s9 wx)
      case first =>
        have HS : ∀ w w' : World, (w.cell? ⟨W.heap.size, 0, none⟩ = some (.string nm) ∧ w.cell? ⟨W.heap.size, 1, none⟩ = some (.slice pp pn pc) ∧ w.cell? ⟨W.heap.size, 2, none⟩ = some (.int .i64 rt) ∧ w.cell? ⟨W.heap.size, 3, none⟩ = some (.slice bp n bc) ∧ W.heap.size < w.heap.size ∧ Below W.heap.size W w) → Below w.heap.size w w' → (w'.cell? ⟨W.heap.size, 0, none⟩ = some (.string nm) ∧ w'.cell? ⟨W.heap.size, 1, none⟩ = some (.slice pp pn pc) ∧ w'.cell? ⟨W.heap.size, 2, none⟩ = some (.int .i64 rt) ∧ w'.cell? ⟨W.heap.size, 3, none⟩ = some (.slice bp n bc) ∧ W.heap.size < w'.heap.size ∧ Below W.heap.size W w') := by
          rintro w w' ⟨q0, q1, q2, q3, q4, q5⟩ hb
          exact ⟨(hb.cell (p := ⟨W.heap.size, 0, none⟩) q4).trans q0, (hb.cell (p := ⟨W.heap.size, 1, none⟩) q4).trans q1, (hb.cell (p := ⟨W.heap.size, 2, none⟩) q4).trans q2, (hb.cell (p := ⟨W.heap.size, 3, none⟩) q4).trans q3, Nat.lt_of_lt_of_le q4 hb.size, q5.trans (hb.mono (Nat.le_of_lt q4))⟩
        have hS3 : w3.cell? ⟨W.heap.size, 0, none⟩ = some (.string nm) ∧ w3.cell? ⟨W.heap.size, 1, none⟩ = some (.slice pp pn pc) ∧ w3.cell? ⟨W.heap.size, 2, none⟩ = some (.int .i64 rt) ∧ w3.cell? ⟨W.heap.size, 3, none⟩ = some (.slice bp n bc) ∧ W.heap.size < w3.heap.size ∧ Below W.heap.size W w3 := ⟨H3.out.2.get 0 _ rfl, H3.out.2.get 1 _ rfl, H3.out.2.get 2 _ rfl, H3.out.2.get 3 _ rfl, H3.out.2.1, H3.out.1.2⟩
        obtain ⟨k0, k1, k2, k3, k4, k5⟩ := hS3
        have kh : Hold [] w3 := Hold.nil _
        have cA : ∀ w, ((w.cell? ⟨W.heap.size, 0, none⟩ = some (.string nm) ∧ w.cell? ⟨W.heap.size, 1, none⟩ = some (.slice pp pn pc) ∧ w.cell? ⟨W.heap.size, 2, none⟩ = some (.int .i64 rt) ∧ w.cell? ⟨W.heap.size, 3, none⟩ = some (.slice bp n bc) ∧ W.heap.size < w.heap.size ∧ Below W.heap.size W w) ∧ Hold [] w) → Calls Try.prog 18 #[.agg #[.string nm, .slice pp pn pc, .int .i64 rt, .slice bp n bc]] w fun e w' => ∃ R, e = .returned (.slice (some ⟨R, 0, none⟩) n n) ∧ w'.cell? ⟨W.heap.size, 0, none⟩ = some (.string nm) ∧ w'.cell? ⟨W.heap.size, 1, none⟩ = some (.slice pp pn pc) ∧ w'.cell? ⟨W.heap.size, 2, none⟩ = some (.int .i64 rt) ∧ w'.cell? ⟨W.heap.size, 3, none⟩ = some (.slice bp n bc) ∧ W.heap.size < w'.heap.size ∧ Below W.heap.size W w' ∧ Hold [(fun u => UpQ S n R u)] w' := by
          rintro w ⟨k, kh⟩
          refine (HC.out.2.1 w k.2.2.2.2.2).mono ?_
          rintro e w' ⟨R, he, hp, hR, hl⟩
          obtain ⟨q0, q1, q2, q3, q4, q5⟩ := HS w w' k hp.2
          exact ⟨R, he, q0, q1, q2, q3, q4, q5, kh.cons hp.2 (UpQ.all hl)⟩
        have cB : ∀ R w, ((w.cell? ⟨W.heap.size, 0, none⟩ = some (.string nm) ∧ w.cell? ⟨W.heap.size, 1, none⟩ = some (.slice pp pn pc) ∧ w.cell? ⟨W.heap.size, 2, none⟩ = some (.int .i64 rt) ∧ w.cell? ⟨W.heap.size, 3, none⟩ = some (.slice bp n bc) ∧ W.heap.size < w.heap.size ∧ Below W.heap.size W w) ∧ Hold [(fun u => UpQ S n R u)] w) → Calls Try.prog 28 #[.agg #[.string nm, .slice pp pn pc, .int .i64 rt, .slice bp n bc], .int .i64 a, .int .i64 b] w fun e w' => ∃ nm1 pp1 pn1 pc1 rt1 bp1 bn1 bc1, e = .returned (.agg #[.string nm1, .slice pp1 pn1 pc1, .int .i64 rt1, .slice bp1 bn1 bc1]) ∧ w'.cell? ⟨W.heap.size, 0, none⟩ = some (.string nm) ∧ w'.cell? ⟨W.heap.size, 1, none⟩ = some (.slice pp pn pc) ∧ w'.cell? ⟨W.heap.size, 2, none⟩ = some (.int .i64 rt) ∧ w'.cell? ⟨W.heap.size, 3, none⟩ = some (.slice bp n bc) ∧ W.heap.size < w'.heap.size ∧ Below W.heap.size W w' ∧ Hold [(fun u => ZIn D a b [.string nm1, .slice pp1 pn1 pc1, .int .i64 rt1, .slice bp1 bn1 bc1] u), (fun u => UpQ S n R u)] w' := by
          rintro R w ⟨k, kh⟩
          refine (HC.out.2.2 a b han hbn w k.2.2.2.2.2).mono ?_
          rintro e w' ⟨z, he, hpm, hp, hz⟩
          obtain ⟨q0, q1, q2, q3, q4, q5⟩ := HS w w' k hp.2
          refine ⟨z.nm, z.pp, z.pn, z.pc, z.rt, z.bp, z.bn, z.bc, he, q0, q1, q2, q3, q4, q5, kh.cons hp.2 (ZIn.all ⟨z, rfl, hpm, hz⟩)⟩
        have cC : ∀ R nm1 pp1 pn1 pc1 rt1 bp1 bn1 bc1 w, ((w.cell? ⟨W.heap.size, 0, none⟩ = some (.string nm) ∧ w.cell? ⟨W.heap.size, 1, none⟩ = some (.slice pp pn pc) ∧ w.cell? ⟨W.heap.size, 2, none⟩ = some (.int .i64 rt) ∧ w.cell? ⟨W.heap.size, 3, none⟩ = some (.slice bp n bc) ∧ W.heap.size < w.heap.size ∧ Below W.heap.size W w) ∧ Hold [(fun u => ZIn D a b [.string nm1, .slice pp1 pn1 pc1, .int .i64 rt1, .slice bp1 bn1 bc1] u), (fun u => UpQ S n R u)] w) → Calls Try.prog 18 #[.agg #[.string nm1, .slice pp1 pn1 pc1, .int .i64 rt1, .slice bp1 bn1 bc1]] w fun e w' => ∃ R2, e = .returned (.slice (some ⟨R2, 0, none⟩) n n) ∧ w'.cell? ⟨W.heap.size, 0, none⟩ = some (.string nm) ∧ w'.cell? ⟨W.heap.size, 1, none⟩ = some (.slice pp pn pc) ∧ w'.cell? ⟨W.heap.size, 2, none⟩ = some (.int .i64 rt) ∧ w'.cell? ⟨W.heap.size, 3, none⟩ = some (.slice bp n bc) ∧ W.heap.size < w'.heap.size ∧ Below W.heap.size W w' ∧ Hold [(fun u => UpQ S' n R2 u), (fun u => ZIn D a b [.string nm1, .slice pp1 pn1 pc1, .int .i64 rt1, .slice bp1 bn1 bc1] u), (fun u => UpQ S n R u)] w' := by
          rintro R nm1 pp1 pn1 pc1 rt1 bp1 bn1 bc1 w ⟨k, kh⟩
          obtain ⟨z, e1, hpm, hz⟩ := kh.get (fun u => ZIn D a b [.string nm1, .slice pp1 pn1 pc1, .int .i64 rt1, .slice bp1 bn1 bc1] u) (.head _)
          have c := gI z hpm w hz
          rw [e1] at c
          refine c.mono ?_
          rintro e w' ⟨R2, he, hp, hR, hl⟩
          obtain ⟨q0, q1, q2, q3, q4, q5⟩ := HS w w' k hp.2
          exact ⟨R2, he, q0, q1, q2, q3, q4, q5, kh.cons hp.2 (UpQ.all hl)⟩
        clear HS gI
        go_region_held3 (fun w' => w'.cell? ⟨W.heap.size, 0, none⟩ = some (.string nm) ∧ w'.cell? ⟨W.heap.size, 1, none⟩ = some (.slice pp pn pc) ∧ w'.cell? ⟨W.heap.size, 2, none⟩ = some (.int .i64 rt) ∧ w'.cell? ⟨W.heap.size, 3, none⟩ = some (.slice bp n bc) ∧ W.heap.size < w'.heap.size ∧ Below W.heap.size W w')
          (((try dsimp only); (repeat' apply And.intro) <;> (first | (with_reducible assumption) | (rw [World.cell?_drew]; with_reducible assumption) | (with_reducible apply below_drew; with_reducible assumption) | (simp <;> omega))))
          (first
            | ((with_reducible refine' (cA _ ?pre).mono ?_)
               case pre => (refine ⟨⟨?_, ?_, ?_, ?_, ?_, ?_⟩, ?_⟩ <;> (first | (with_reducible assumption) | (rw [World.cell?_drew]; with_reducible assumption) | (with_reducible apply below_drew; with_reducible assumption) | (with_reducible apply Hold.drew; with_reducible assumption) | (simp <;> omega) | omega))
               rintro e wsa ⟨R1, rfl, sa0, sa1, sa2, sa3, sa4, sa5, sah⟩)
            | ((with_reducible refine' (cB _ _ ?pre).mono ?_)
               case pre => (refine ⟨⟨?_, ?_, ?_, ?_, ?_, ?_⟩, ?_⟩ <;> (first | (with_reducible assumption) | (rw [World.cell?_drew]; with_reducible assumption) | (with_reducible apply below_drew; with_reducible assumption) | (with_reducible apply Hold.drew; with_reducible assumption) | (simp <;> omega) | omega))
               rintro e wsb ⟨nm1, pp1, pn1, pc1, rt1, bp1, bn1, bc1, rfl, sb0, sb1, sb2, sb3, sb4, sb5, sbh⟩)
            | ((with_reducible refine' (cC _ _ _ _ _ _ _ _ _ _ ?pre).mono ?_)
               case pre => (refine ⟨⟨?_, ?_, ?_, ?_, ?_, ?_⟩, ?_⟩ <;> (first | (with_reducible assumption) | (rw [World.cell?_drew]; with_reducible assumption) | (with_reducible apply below_drew; with_reducible assumption) | (with_reducible apply Hold.drew; with_reducible assumption) | (simp <;> omega) | omega))
               rintro e wsc ⟨R2, rfl, sc0, sc1, sc2, sc3, sc4, sc5, sch⟩))
        all_goals
          go_wp2_with fail
          go_meet
          exact ⟨R1, R2, rfl, rfl, sc5, sch.get (fun u => UpQ S n R1 u) (.tail _ (.tail _ (.head _))), sch.get (fun u => UpQ S' n R2 u) (.head _)⟩
      case rest =>
        obtain ⟨R1, R2, rfl, rfl, hbl, hr1, hr2⟩ := hcut
        generalize wc = w6 at *
        have HQ := Lib.hid (And.intro hbl (And.intro hr1 hr2))
        clear hbl hr1 hr2 gI
        have hle := H3.out.1.size
        go_wp2_with fail
        go_loopw [58] (fun t wr => ∃ i : Nat, i ≤ n ∧ t = .int .i64 i ∧ Below w6.heap.size w6 wr) (fun t _ => n - (intOf t).toNat)
        case atStart => exact ⟨0, Nat.zero_le _, rfl, Below.refl _ _⟩
        case round =>
          obtain ⟨i, hile, rfl, hb⟩ := hrel
          by_cases hlt : i < n
          · have hc1 := HQ.out.2.1.cell hb hlt
            have hmn : mvN a b i < n := (mvN_lt han hbn).2 hlt
            have hc2 := HQ.out.2.2.cell hb hmn
            rw [HU.out i] at hc2
            have cM := fun (w : World) => Moved_q i a b w
            have cN := fun (w : World) => Moved_i (upI S i) a b w
            obtain ⟨y, ey⟩ : ∃ y, mvN a b i = y := ⟨_, rfl⟩
            rw [ey] at hc2 hmn
            simp only [ey] at cM
            obtain ⟨v, ev⟩ : ∃ v, upI S i = v := ⟨_, rfl⟩
            rw [ev] at hc1 hc2
            simp only [ev] at cN
            obtain ⟨m, em⟩ : ∃ m, mvI a b v = m := ⟨_, rfl⟩
            rw [em] at hc2
            simp only [em] at cN
            have HB := Lib.hid hb
            clear hb ey ev em
            go_wp2_with fail
            go_quiet ((go_at_call 29; first | with_reducible exact Calls.quiet_of_same (cM _) | with_reducible exact Calls.quiet_of_same (cN _)))
            all_goals
              go_wp2_with fail
              exact ⟨⟨i + 1, by omega, by go_num, HB.out.trans (below_drewN _ _ _)⟩, by simp [intOf]; omega⟩
          · obtain rfl : i = n := by omega
            have HF := Lib.hid (HQ.out.1.trans (hb.mono HQ.out.1.size))
            clear hb
            go_wp2_with fail
            go_ret
            exact ⟨rfl, HF.out⟩
end Go.Proofs.Ytphdhndljgihmaa
