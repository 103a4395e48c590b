/- The law DomOrders: its walk. -/
import Derived.Test.YtphdhndljgihmaaDPerm
namespace Go.Proofs.Ytphdhndljgihmaa
open Go.RowKit Go.Maps
set_option linter.unusedVariables false
set_option linter.unusedSimpArgs false

theorem place_of1 (x : Int) (n : Nat) (hn : 0 < n) (hb : n ≤ 1048576) : ∃ A : Nat, wrap64 ((IntKind.u64.wrap x).tmod (n : Int)) = (A : Int) ∧ A < n := by
  have hu : 0 ≤ IntKind.u64.wrap x := by
    show 0 ≤ x % 18446744073709551616
    exact Int.emod_nonneg _ (by decide)
  obtain ⟨U, eU⟩ : ∃ U, IntKind.u64.wrap x = U := ⟨_, rfl⟩
  rw [eU] at hu ⊢
  have h1 : 0 ≤ U.tmod (n : Int) := Int.tmod_nonneg _ hu
  have h2 : U.tmod (n : Int) < (n : Int) := Int.tmod_lt_of_pos _ (by omega)
  obtain ⟨r, er⟩ : ∃ r, U.tmod (n : Int) = r := ⟨_, rfl⟩
  rw [er] at h1 h2 ⊢
  have e1 : wrap64 r = r := IntWalk.wrap64_in _ (by omega)
  exact ⟨r.toNat, by rw [e1]; omega, by omega⟩
theorem dmI_self {S : Nat → List Nat} {n a : Nat} (ha : a < n) : dmI S n a a = rchB S a := by
  rw [Bool.eq_iff_iff, dmI_nat ha, rchB_iff]
  exact ⟨fun h => h.1, Dm.refl⟩
theorem dmI_zero {S : Nat → List Nat} {n a : Nat} (ha : a < n) : dmI S n 0 a = rchB S a := by
  have : dmI S n ((0 : Nat) : Int) a = rchB S a := by
    rw [Bool.eq_iff_iff, dmI_nat ha, rchB_iff]
    exact ⟨fun h => h.2.1, Dm.zero⟩
  exact this
theorem dmI_anti {S : Nat → List Nat} {n a b : Nat} (ha : a < n) (hb : b < n) (h : dmI S n a b = true) (hne : a ≠ b) : dmI S n b a = false := by
  rw [dmI_nat hb] at h
  rw [Bool.eq_false_iff, ne_eq, dmI_nat ha]
  exact fun k => hne (h.antisymm k)
theorem dmI_trans {S : Nat → List Nat} {n a b c : Nat} (hb : b < n) (hc : c < n) (h : dmI S n a b = true) (k : dmI S n b c = true) : dmI S n a c = true := by
  rw [dmI_nat hb] at h
  rw [dmI_nat hc] at k ⊢
  exact h.trans k
/-- Going up from any block b: Climb, and what is so of a block that isn't reachable. -/
structure Upw (S : Nat → List Nat) (n a b i : Nat) (x : Int) : Prop where
  low : -1 ≤ x
  fin : i ≤ n
  yes : Rch S b → Climb S n a b i x
  no : ¬ Rch S b → (x = (b : Int) ∧ i = 0) ∨ x = -1
  lt : ∀ y : Nat, x = (y : Int) → y < n
theorem Upw.start {S : Nat → List Nat} {n a b : Nat} (hb : b < n) : Upw S n a b 0 (b : Int) :=
  ⟨by omega, Nat.zero_le _, Climb.start, fun _ => .inl ⟨rfl, rfl⟩, fun y e => by omega⟩
theorem Upw.step {S : Nat → List Nat} {n a b i x : Nat} (hS : ∀ b, ∀ t ∈ S b, t < n) (h : Upw S n a b i (x : Int)) (hx : x ≠ a) : i + 1 ≤ n ∧ Upw S n a b (i + 1) (upI S x) := by
  have hxn := h.lt x rfl
  have hn0 : 0 < n := by omega
  have hlt : ∀ y : Nat, upI S x = (y : Int) → y < n := fun y e => by
    rcases upI_cases S x with ⟨u, hu, e'⟩ | ⟨_, e'⟩
    · obtain rfl : u = y := by omega
      exact rch_lt hn0 hS hu.2.1.1
    · omega
  have hlow : -1 ≤ upI S x := by
    rcases upI_cases S x with ⟨u, hu, e'⟩ | ⟨_, e'⟩ <;> omega
  by_cases hb : Rch S b
  · have c := (h.yes hb).step hn0 hS hx
    exact ⟨c.fin, hlow, c.fin, fun _ => c, fun k => absurd hb k, hlt⟩
  · rcases h.no hb with ⟨e, rfl⟩ | e
    · obtain rfl : x = b := by omega
      exact ⟨by omega, hlow, by omega, fun k => absurd k hb, fun _ => .inr (upI_none fun u hu => hb hu.2.1.2.1), hlt⟩
    · omega
theorem Upw.ends {S : Nat → List Nat} {n a b i : Nat} {x : Int} (hb : b < n) (h : Upw S n a b i x) (hx : x < 0 ∨ x = (a : Int)) : dmI S n a b = (decide (x = (a : Int)) && rchB S a && rchB S b) := by
  rw [Bool.eq_iff_iff, dmI_nat hb]
  simp only [Bool.and_eq_true, decide_eq_true_eq, rchB_iff]
  constructor
  · intro k
    exact ⟨⟨((h.yes k.2.1).ends hx).2 k, k.1⟩, k.2.1⟩
  · rintro ⟨⟨e, _⟩, k⟩
    exact ((h.yes k).ends hx).1 e
set_option maxRecDepth 100000 in
set_option maxHeartbeats 16000000 in
theorem orders_walk (W : World) (f : LFn) (av bv cv : Int) (hf : FnIn W.heap.size W f) (hs : FnSm f) (hbs : f.bs.length ≤ 1048576) :
    Calls Try.prog 5 #[.agg (fnC f).toArray, .int .i64 av, .int .i64 bv, .int .i64 cv] W fun e w' => e = .returned (.bool true) ∧ Below W.heap.size W w' := by
  have cl := lives_any
  have hP := (Past.refl (Nat.le_refl W.heap.size)).alloc (.cells (fnC f).toArray 25)
  have A1 : Box W.heap.size (fnC f) (W.alloc (.cells (fnC f).toArray 25)) := Box.new W rfl _ _
  have cF : ∀ w, Below W.heap.size W w → FnIn w.heap.size w f := fun w h => past_lasts lasts_Fn hf ⟨Nat.le_refl _, h⟩
  have HN : Hid (∀ b, ∀ t ∈ succP (fnD f).bs b, t < f.bs.length) := Lib.hid (fun b t ht => by
    have := succP_lt _ _ t ht
    simpa [fnD] using this)
  obtain ⟨L, hL⟩ := order_ex HN.out
  have hO := hL.ordered HN.out
  have cLo : ∀ w, Below W.heap.size W w → Calls Try.prog 11 #[.agg (fnC f).toArray] w (SomeBool w) := fun w h => long_any f w (cF w h) hbs
  have cId : ∀ w, Below W.heap.size W w → Calls Try.prog 18 #[.agg (fnC f).toArray] w (OwnUp (succP (fnD f).bs) f.bs.length w) := fun w h => Idom_own f w (cF w h) hs hbs
  have cRe : ∀ w, Below W.heap.size W w → Calls Try.prog 25 #[.agg (fnC f).toArray] w (OwnBools f.bs.length (rchB (succP (fnD f).bs)) w) := fun w h => by
    refine (Reach_own f w (cF w h) hs hbs L hL).mono ?_
    rintro e w' ⟨R, h1, h2, h3, h4⟩
    obtain ⟨c, e1, e2, e3⟩ := h4
    refine ⟨R, h1, h2, h3, c, e1, e2, fun i hi => ?_⟩
    rw [e3 i hi]
    have : decide (i ∈ L) = rchB (succP (fnD f).bs) i := by
      rw [Bool.eq_iff_iff, decide_eq_true_eq, rchB_iff]
      exact hO.rch i (by omega)
    simp only [this]
  have cDm : ∀ (x y : Int) w, Below W.heap.size W w → Calls Try.prog 23 #[.agg (fnC f).toArray, .int .i64 x, .int .i64 y] w fun e w' => e = .returned (.bool (dmI (succP (fnD f).bs) f.bs.length x y)) ∧ Past w.heap.size w w' := fun x y w h => Dominates_any f x y w (cF w h) hs hbs
  obtain ⟨S, eS⟩ : ∃ S, succP (fnD f).bs = S := ⟨_, rfl⟩
  simp only [eS] at cId cRe cDm HN
  obtain ⟨nm, pp, pn, pc, ps, rt, bp, bn, bc, bs⟩ := f
  obtain rfl : bn = bs.length := hf.2.1
  show Calls Try.prog 5 #[.agg #[.string nm, .slice pp pn pc, .int .i64 rt, .slice bp bs.length bc], .int .i64 av, .int .i64 bv, .int .i64 cv] W _
  have hfc : fnC ⟨nm, pp, pn, pc, ps, rt, bp, bs.length, bc, bs⟩ = [.string nm, .slice pp pn pc, .int .i64 rt, .slice bp bs.length bc] := rfl
  rw [hfc] at A1 hP
  simp only [hfc] at cLo cId cRe cDm
  obtain ⟨n, en⟩ : ∃ n, bs.length = n := ⟨_, rfl⟩
  simp only [en] at cLo cId cRe cDm A1 hP hbs HN ⊢
  have HC := Lib.hid (And.intro cLo (And.intro cId (And.intro cRe cDm)))
  have HB := Lib.hid (And.intro hP A1)
  clear cLo cId cRe cDm hP A1 cF hfc hf hs eS en hO hL
  go_enter Try.func5, Try.ntmps5
  go_wp2_with fail
  refine (cl _).mono ?_
  rintro e w1 ⟨rfl, hb1⟩
  have H1 := Lib.hid (And.intro (HB.out.1.trans ⟨HB.out.1.size, hb1.mono HB.out.1.size⟩) (HB.out.2.later hb1))
  clear hb1 cl HB
  have b0 := H1.out.2.get 0 _ rfl
  have b1 := H1.out.2.get 1 _ rfl
  have b2 := H1.out.2.get 2 _ rfl
  have b3 := H1.out.2.get 3 _ rfl
  have c1 := HC.out.1 w1 H1.out.1.2
  go_wp2_with fail
  refine c1.mono ?_
  rintro e w2 ⟨bl, rfl, hb2⟩
  have H2 := Lib.hid (And.intro (H1.out.1.trans ⟨H1.out.1.size, hb2.mono H1.out.1.size⟩) (H1.out.2.later hb2))
  clear hb2 c1 H1 b0 b1 b2 b3
  cases bl
  case true =>
    go_wp2
    go_ret
    exact ⟨rfl, H2.out.1.2⟩
  by_cases hn0 : n = 0
  · have hd : ((n : Int) == 0) = true := by simp [hn0]
    have hd2 : decide ((n : Int) = 0) = true := by simp [hn0]
    clear hn0
    go_wp2_with fail
    go_ret
    exact ⟨rfl, H2.out.1.2⟩
  · have hd : ((n : Int) == 0) = false := by simp [hn0]
    have hd2 : decide ((n : Int) = 0) = false := by simp [hn0]
    go_upto_region 6 with fail
    go_cut [1, 2, 3] (fun s1 s2 s3 wx => ∃ A B C : Nat, s1 = .int .i64 A ∧ s2 = .int .i64 B ∧ s3 = .int .i64 C ∧ A < n ∧ B < n ∧ C < n ∧ Below w2.heap.size w2 wx)
    case first =>
      have hw1 : IntKind.u64.wrap (n : Int) = (n : Int) := by
        show (n : Int) % 18446744073709551616 = n
        omega
      have hw2 : decide ((n : Int) = 0) = false := hd2
      go_quiet (fail)
      all_goals
        go_wp2_with fail
        go_meet
        obtain ⟨A, hA, hA1⟩ := place_of1 av n (by omega) hbs
        obtain ⟨B, hB, hB1⟩ := place_of1 bv n (by omega) hbs
        obtain ⟨C, hC, hC1⟩ := place_of1 cv n (by omega) hbs
        exact ⟨A, B, C, by rw [hA], by rw [hB], by rw [hC], hA1, hB1, hC1, below_drewN _ _ _⟩
    case rest =>
      obtain ⟨a, b, c, rfl, rfl, rfl, han, hbn, hcn, hbw⟩ := hcut
      generalize wc = w3 at *
      have H3 := Lib.hid (And.intro (H2.out.1.trans ⟨H2.out.1.size, hbw.mono H2.out.1.size⟩) (H2.out.2.later hbw))
      clear H2 hbw hd hd2
      have HO := Lib.hid (And.intro (dmI_self (S := S) han) (And.intro (dmI_zero (S := S) han) (And.intro (fun k => dmI_anti (S := S) han hbn k) (fun k => dmI_trans (S := S) (a := a) hbn hcn k))))
      have HD := HC.out.2.2.2
      go_upto_region 7 with fail
      go_cut [10, 11] (fun s10 s11 wx => ∃ R1 R2, s10 = .slice (some ⟨R1, 0, none⟩) n n ∧ s11 = .slice (some ⟨R2, 0, none⟩) n n ∧ Below W.heap.size W wx ∧ Below w3.heap.size w3 wx ∧ wx.rowIs R1 4 n (fun i => .bool (rchB S i)) ∧ UpQ S n R2 wx)
      case first =>
        have hS3 : w3.cell? ⟨W.heap.size, 0, none⟩ = some (.string nm) ∧ w3.cell? ⟨W.heap.size, 1, none⟩ = some (.slice pp pn pc) ∧ w3.cell? ⟨W.heap.size, 2, none⟩ = some (.int .i64 rt) ∧ w3.cell? ⟨W.heap.size, 3, none⟩ = some (.slice bp n bc) ∧ W.heap.size < w3.heap.size ∧ Below W.heap.size W w3 := ⟨H3.out.2.get 0 _ rfl, H3.out.2.get 1 _ rfl, H3.out.2.get 2 _ rfl, H3.out.2.get 3 _ rfl, H3.out.2.1, H3.out.1.2⟩
        have HS : ∀ w w' : World, (w.cell? ⟨W.heap.size, 0, none⟩ = some (.string nm) ∧ w.cell? ⟨W.heap.size, 1, none⟩ = some (.slice pp pn pc) ∧ w.cell? ⟨W.heap.size, 2, none⟩ = some (.int .i64 rt) ∧ w.cell? ⟨W.heap.size, 3, none⟩ = some (.slice bp n bc) ∧ W.heap.size < w.heap.size ∧ Below W.heap.size W w) → Below w.heap.size w w' → (w'.cell? ⟨W.heap.size, 0, none⟩ = some (.string nm) ∧ w'.cell? ⟨W.heap.size, 1, none⟩ = some (.slice pp pn pc) ∧ w'.cell? ⟨W.heap.size, 2, none⟩ = some (.int .i64 rt) ∧ w'.cell? ⟨W.heap.size, 3, none⟩ = some (.slice bp n bc) ∧ W.heap.size < w'.heap.size ∧ Below W.heap.size W w') := by
          rintro w w' ⟨q0, q1, q2, q3, q4, q5⟩ hb
          exact ⟨(hb.cell (p := ⟨W.heap.size, 0, none⟩) q4).trans q0, (hb.cell (p := ⟨W.heap.size, 1, none⟩) q4).trans q1, (hb.cell (p := ⟨W.heap.size, 2, none⟩) q4).trans q2, (hb.cell (p := ⟨W.heap.size, 3, none⟩) q4).trans q3, Nat.lt_of_lt_of_le q4 hb.size, q5.trans (hb.mono (Nat.le_of_lt q4))⟩
        obtain ⟨k0, k1, k2, k3, k4, k5⟩ := hS3
        have kh : Hold [fun u => Below w3.heap.size w3 u] w3 := Hold.one fun u hu => hu
        have cA : ∀ w, ((w.cell? ⟨W.heap.size, 0, none⟩ = some (.string nm) ∧ w.cell? ⟨W.heap.size, 1, none⟩ = some (.slice pp pn pc) ∧ w.cell? ⟨W.heap.size, 2, none⟩ = some (.int .i64 rt) ∧ w.cell? ⟨W.heap.size, 3, none⟩ = some (.slice bp n bc) ∧ W.heap.size < w.heap.size ∧ Below W.heap.size W w) ∧ Hold [(fun u => Below w3.heap.size w3 u)] w) → Calls Try.prog 25 #[.agg #[.string nm, .slice pp pn pc, .int .i64 rt, .slice bp n bc]] w fun e w' => ∃ R, e = .returned (.slice (some ⟨R, 0, none⟩) n n) ∧ w'.cell? ⟨W.heap.size, 0, none⟩ = some (.string nm) ∧ w'.cell? ⟨W.heap.size, 1, none⟩ = some (.slice pp pn pc) ∧ w'.cell? ⟨W.heap.size, 2, none⟩ = some (.int .i64 rt) ∧ w'.cell? ⟨W.heap.size, 3, none⟩ = some (.slice bp n bc) ∧ W.heap.size < w'.heap.size ∧ Below W.heap.size W w' ∧ Hold [(fun u => u.rowIs R 4 n (fun i => .bool (rchB S i))), (fun u => Below w3.heap.size w3 u)] w' := by
          rintro w ⟨k, kh⟩
          refine (HC.out.2.2.1 w k.2.2.2.2.2).mono ?_
          rintro e w' ⟨R, he, hp, hR, hl⟩
          obtain ⟨q0, q1, q2, q3, q4, q5⟩ := HS w w' k hp.2
          exact ⟨R, he, q0, q1, q2, q3, q4, q5, kh.cons hp.2 (fun u hu => rowIs_kept hl (below_grown hu) (by simp))⟩
        have cB : ∀ R w, ((w.cell? ⟨W.heap.size, 0, none⟩ = some (.string nm) ∧ w.cell? ⟨W.heap.size, 1, none⟩ = some (.slice pp pn pc) ∧ w.cell? ⟨W.heap.size, 2, none⟩ = some (.int .i64 rt) ∧ w.cell? ⟨W.heap.size, 3, none⟩ = some (.slice bp n bc) ∧ W.heap.size < w.heap.size ∧ Below W.heap.size W w) ∧ Hold [(fun u => u.rowIs R 4 n (fun i => .bool (rchB S i))), (fun u => Below w3.heap.size w3 u)] w) → Calls Try.prog 18 #[.agg #[.string nm, .slice pp pn pc, .int .i64 rt, .slice bp n bc]] w fun e w' => ∃ R2, e = .returned (.slice (some ⟨R2, 0, none⟩) n n) ∧ w'.cell? ⟨W.heap.size, 0, none⟩ = some (.string nm) ∧ w'.cell? ⟨W.heap.size, 1, none⟩ = some (.slice pp pn pc) ∧ w'.cell? ⟨W.heap.size, 2, none⟩ = some (.int .i64 rt) ∧ w'.cell? ⟨W.heap.size, 3, none⟩ = some (.slice bp n bc) ∧ W.heap.size < w'.heap.size ∧ Below W.heap.size W w' ∧ Hold [(fun u => UpQ S n R2 u), (fun u => u.rowIs R 4 n (fun i => .bool (rchB S i))), (fun u => Below w3.heap.size w3 u)] w' := by
          rintro R w ⟨k, kh⟩
          refine (HC.out.2.1 w k.2.2.2.2.2).mono ?_
          rintro e w' ⟨R2, he, hp, hR, hl⟩
          obtain ⟨q0, q1, q2, q3, q4, q5⟩ := HS w w' k hp.2
          exact ⟨R2, he, q0, q1, q2, q3, q4, q5, kh.cons hp.2 (UpQ.all hl)⟩
        clear HS
        go_region_held3 (fun w' => w'.cell? ⟨W.heap.size, 0, none⟩ = some (.string nm) ∧ w'.cell? ⟨W.heap.size, 1, none⟩ = some (.slice pp pn pc) ∧ w'.cell? ⟨W.heap.size, 2, none⟩ = some (.int .i64 rt) ∧ w'.cell? ⟨W.heap.size, 3, none⟩ = some (.slice bp n bc) ∧ W.heap.size < w'.heap.size ∧ Below W.heap.size W w')
          (((try dsimp only); (repeat' apply And.intro) <;> (first | (with_reducible assumption) | (rw [World.cell?_drew]; with_reducible assumption) | (with_reducible apply below_drew; with_reducible assumption) | (simp <;> omega))))
          (first
            | ((with_reducible refine' (cA _ ?pre).mono ?_)
               case pre => (refine ⟨⟨?_, ?_, ?_, ?_, ?_, ?_⟩, ?_⟩ <;> (first | (with_reducible assumption) | (rw [World.cell?_drew]; with_reducible assumption) | (with_reducible apply below_drew; with_reducible assumption) | (with_reducible apply Hold.drew; with_reducible assumption) | (simp <;> omega) | omega))
               rintro e wsa ⟨R1, rfl, sa0, sa1, sa2, sa3, sa4, sa5, sah⟩)
            | ((with_reducible refine' (cB _ _ ?pre).mono ?_)
               case pre => (refine ⟨⟨?_, ?_, ?_, ?_, ?_, ?_⟩, ?_⟩ <;> (first | (with_reducible assumption) | (rw [World.cell?_drew]; with_reducible assumption) | (with_reducible apply below_drew; with_reducible assumption) | (with_reducible apply Hold.drew; with_reducible assumption) | (simp <;> omega) | omega))
               rintro e wsb ⟨R2, rfl, sb0, sb1, sb2, sb3, sb4, sb5, sbh⟩))
        all_goals
          go_wp2_with fail
          go_meet
          exact ⟨R1, R2, rfl, rfl, sb5, sbh.get (fun u => Below w3.heap.size w3 u) (.tail _ (.tail _ (.head _))), sbh.get (fun u => u.rowIs R1 4 n (fun i => .bool (rchB S i))) (.tail _ (.head _)), sbh.get (fun u => UpQ S n R2 u) (.head _)⟩
      case rest =>
        obtain ⟨R1, R2, rfl, rfl, hbl, hb3, hr1, hr2⟩ := hcut
        generalize wc = w4 at *
        have HX := H3.out.2.later hb3
        have HU := Lib.hid hr2
        have HR := Lib.hid hr1
        have HBW := Lib.hid hbl
        have hmk : ∀ w, Below w4.heap.size w4 w → (∀ i, i < n → w.cell? ⟨R1, i, none⟩ = some (.bool (rchB S i))) ∧ Below W.heap.size W w ∧ Box W.heap.size [.string nm, .slice pp pn pc, .int .i64 rt, .slice bp n bc] w := fun w h => ⟨fun i hi => World.rowIs.cell (rowIs_kept HR.out (below_grown h) (by simp)) hi, HBW.out.trans (h.mono HBW.out.size), HX.later h⟩
        obtain ⟨ra, era⟩ : ∃ ra, rchB S a = ra := ⟨_, rfl⟩
        obtain ⟨ab, eab⟩ : ∃ ab, dmI S n a b = ab := ⟨_, rfl⟩
        obtain ⟨bc', ebc⟩ : ∃ bc', dmI S n b c = bc' := ⟨_, rfl⟩
        obtain ⟨ba, eba⟩ : ∃ ba, dmI S n b a = ba := ⟨_, rfl⟩
        obtain ⟨ac, eac⟩ : ∃ ac, dmI S n a c = ac := ⟨_, rfl⟩
        have hmk8 : ∀ w, Below w4.heap.size w4 w → (w.cell? ⟨W.heap.size, 0, none⟩ = some (.string nm) ∧ w.cell? ⟨W.heap.size, 1, none⟩ = some (.slice pp pn pc) ∧ w.cell? ⟨W.heap.size, 2, none⟩ = some (.int .i64 rt) ∧ w.cell? ⟨W.heap.size, 3, none⟩ = some (.slice bp n bc) ∧ w.cell? ⟨R1, a, none⟩ = some (.bool ra) ∧ Below w4.heap.size w4 w) := fun w h => by
          obtain ⟨h1, _, h3⟩ := hmk w h
          have := h1 a han
          rw [era] at this
          exact ⟨h3.get 0 _ rfl, h3.get 1 _ rfl, h3.get 2 _ rfl, h3.get 3 _ rfl, this, h⟩
        have cD : ∀ (x y : Int) (r : Bool), dmI S n x y = r → ∀ w, (w.cell? ⟨W.heap.size, 0, none⟩ = some (.string nm) ∧ w.cell? ⟨W.heap.size, 1, none⟩ = some (.slice pp pn pc) ∧ w.cell? ⟨W.heap.size, 2, none⟩ = some (.int .i64 rt) ∧ w.cell? ⟨W.heap.size, 3, none⟩ = some (.slice bp n bc) ∧ w.cell? ⟨R1, a, none⟩ = some (.bool ra) ∧ Below w4.heap.size w4 w) → Calls Try.prog 23 #[.agg #[.string nm, .slice pp pn pc, .int .i64 rt, .slice bp n bc], .int .i64 x, .int .i64 y] w fun e w' => e = .returned (.bool r) ∧ w'.cell? ⟨W.heap.size, 0, none⟩ = some (.string nm) ∧ w'.cell? ⟨W.heap.size, 1, none⟩ = some (.slice pp pn pc) ∧ w'.cell? ⟨W.heap.size, 2, none⟩ = some (.int .i64 rt) ∧ w'.cell? ⟨W.heap.size, 3, none⟩ = some (.slice bp n bc) ∧ w'.cell? ⟨R1, a, none⟩ = some (.bool ra) ∧ Below w4.heap.size w4 w' := by
          intro x y r hr w hw
          have hb := hw.2.2.2.2.2
          refine (HD x y w (hmk w hb).2.1).mono ?_
          rintro e w' ⟨he, hp⟩
          rw [hr] at he
          exact ⟨he, hmk8 w' (hb.trans (hp.2.mono hb.size))⟩
        have caa := cD a a ra (HO.out.1.trans era)
        have c0a := cD 0 a ra (HO.out.2.1.trans era)
        have cab := cD a b ab eab
        have cbc := cD b c bc' ebc
        have cba := cD b a ba eba
        have cac := cD a c ac eac
        have hba : ab = true → a ≠ b → ba = false := fun h1 h2 => by rw [← eba]; exact HO.out.2.2.1 (eab.trans h1) h2
        have hac : ab = true → bc' = true → ac = true := fun h1 h2 => by rw [← eac]; exact HO.out.2.2.2 (eab.trans h1) (ebc.trans h2)
        have HE := Lib.hid (And.intro era eab)
        have HM := Lib.hid (And.intro hmk hmk8)
        have HF := Lib.hid (And.intro hba hac)
        have HCC := Lib.hid (And.intro cab (And.intro cbc (And.intro cba cac)))
        clear hbl hb3 hr1 hr2 HD HX hmk hmk8 era eab ebc eba eac cD hba hac cab cbc cba cac
        go_upto_region 8 with fail
        go_cut [81] (fun s81 wx => s81 = .bool false ∧ Below w4.heap.size w4 wx)
        case first =>
          obtain ⟨k0, k1, k2, k3, k4, k5⟩ := HM.out.2 w4 (Below.refl _ _)
          cases ra
          case false =>
            refine wp_region_noPanic ?_
            refine wp_region_held_drew (S := fun w' => w'.cell? ⟨W.heap.size, 0, none⟩ = some (.string nm) ∧ w'.cell? ⟨W.heap.size, 1, none⟩ = some (.slice pp pn pc) ∧ w'.cell? ⟨W.heap.size, 2, none⟩ = some (.int .i64 rt) ∧ w'.cell? ⟨W.heap.size, 3, none⟩ = some (.slice bp n bc) ∧ w'.cell? ⟨R1, a, none⟩ = some (.bool false) ∧ Below w4.heap.size w4 w') (by kernel_rfl) ?_ (fun hHeld => ?_)
            · (((try dsimp only); (repeat' apply And.intro) <;> (first | (with_reducible assumption) | (rw [World.cell?_drew]; with_reducible assumption) | (with_reducible apply below_drew; with_reducible assumption) | (simp <;> omega))))
            refine wpAnyH_take (i := 0) (oi := { dst := some 49, op := Op.move (Operand.tmp 10), type := 38, pos := "law.go:66", after := #[], guard := none }) (v := ?_) rfl (by kernel_rfl) (by kernel_rfl) (by kernel_rfl) (fun _ _ _ h => h) (Or.inl ⟨by rfl, ?_⟩) (by assumption) ?_
            rotate_left
            · intro w hSw
              obtain ⟨hSw0, hSw1, hSw2, hSw3, hSw4, hSw5⟩ := hSw
              go_simp
              try (with_reducible rfl)
            try simp only [Act.put, List.setIfInBounds_toArray, List.set_cons_zero, List.set_cons_succ]
            refine wpAnyH_take (i := 1) (oi := { dst := some 50, op := Op.call { callee := Callee.builtin Builtin.len, args := #[Operand.tmp 49], argTypes := #[38] }, type := 3, pos := "law.go:66", after := #[{ on := 0, ground := Ground.data }], guard := none }) (v := ?_) rfl (by kernel_rfl) (by kernel_rfl) (by kernel_rfl) (fun _ _ _ h => h) (Or.inl ⟨by rfl, ?_⟩) (by assumption) ?_
            rotate_left
            · intro w hSw
              obtain ⟨hSw0, hSw1, hSw2, hSw3, hSw4, hSw5⟩ := hSw
              go_simp
              try (with_reducible rfl)
            try simp only [Act.put, List.setIfInBounds_toArray, List.set_cons_zero, List.set_cons_succ]
            refine wpAnyH_take (i := 2) (oi := { dst := some 51, op := Op.move (Operand.tmp 9), type := 3, pos := "law.go:66", after := #[], guard := none }) (v := ?_) rfl (by kernel_rfl) (by kernel_rfl) (by kernel_rfl) (fun _ _ _ h => h) (Or.inl ⟨by rfl, ?_⟩) (by assumption) ?_
            rotate_left
            · intro w hSw
              obtain ⟨hSw0, hSw1, hSw2, hSw3, hSw4, hSw5⟩ := hSw
              go_simp
              try (with_reducible rfl)
            try simp only [Act.put, List.setIfInBounds_toArray, List.set_cons_zero, List.set_cons_succ]
            refine wpAnyH_take (i := 3) (oi := { dst := some 52, op := Op.binOp BinOp.neq 3 (Operand.tmp 50) (Operand.tmp 51) 3, type := 4, pos := "law.go:66", after := #[{ on := 1, ground := Ground.data }, { on := 2, ground := Ground.data }], guard := none }) (v := ?_) rfl (by kernel_rfl) (by kernel_rfl) (by kernel_rfl) (fun _ _ _ h => h) (Or.inl ⟨by rfl, ?_⟩) (by assumption) ?_
            rotate_left
            · intro w hSw
              obtain ⟨hSw0, hSw1, hSw2, hSw3, hSw4, hSw5⟩ := hSw
              go_simp
              try (with_reducible rfl)
            try simp only [Act.put, List.setIfInBounds_toArray, List.set_cons_zero, List.set_cons_succ]
            refine wpAnyH_take (i := 4) (oi := { dst := some 53, op := Op.move (Operand.tmp 52), type := 4, pos := "law.go:66", after := #[{ on := 3, ground := Ground.data }], guard := none }) (v := ?_) rfl (by kernel_rfl) (by kernel_rfl) (by kernel_rfl) (fun _ _ _ h => h) (Or.inl ⟨by rfl, ?_⟩) (by assumption) ?_
            rotate_left
            · intro w hSw
              obtain ⟨hSw0, hSw1, hSw2, hSw3, hSw4, hSw5⟩ := hSw
              go_simp
              try (with_reducible rfl)
            try simp only [Act.put, List.setIfInBounds_toArray, List.set_cons_zero, List.set_cons_succ]
            refine wpAnyH_take (i := 5) (oi := { dst := some 54, op := Op.move (Operand.tmp 11), type := 22, pos := "law.go:66", after := #[{ on := 4, ground := Ground.guard }], guard := some (4, false) }) (v := ?_) rfl (by kernel_rfl) (by kernel_rfl) (by kernel_rfl) (fun _ _ _ h => h) (Or.inl ⟨by rfl, ?_⟩) (by assumption) ?_
            rotate_left
            · intro w hSw
              obtain ⟨hSw0, hSw1, hSw2, hSw3, hSw4, hSw5⟩ := hSw
              go_simp
              try (with_reducible rfl)
            try simp only [Act.put, List.setIfInBounds_toArray, List.set_cons_zero, List.set_cons_succ]
            refine wpAnyH_take (i := 6) (oi := { dst := some 55, op := Op.call { callee := Callee.builtin Builtin.len, args := #[Operand.tmp 54], argTypes := #[22] }, type := 3, pos := "law.go:66", after := #[{ on := 5, ground := Ground.data }, { on := 4, ground := Ground.guard }], guard := some (4, false) }) (v := ?_) rfl (by kernel_rfl) (by kernel_rfl) (by kernel_rfl) (fun _ _ _ h => h) (Or.inl ⟨by rfl, ?_⟩) (by assumption) ?_
            rotate_left
            · intro w hSw
              obtain ⟨hSw0, hSw1, hSw2, hSw3, hSw4, hSw5⟩ := hSw
              go_simp
              try (with_reducible rfl)
            try simp only [Act.put, List.setIfInBounds_toArray, List.set_cons_zero, List.set_cons_succ]
            refine wpAnyH_take (i := 7) (oi := { dst := some 56, op := Op.move (Operand.tmp 9), type := 3, pos := "law.go:66", after := #[{ on := 4, ground := Ground.guard }], guard := some (4, false) }) (v := ?_) rfl (by kernel_rfl) (by kernel_rfl) (by kernel_rfl) (fun _ _ _ h => h) (Or.inl ⟨by rfl, ?_⟩) (by assumption) ?_
            rotate_left
            · intro w hSw
              obtain ⟨hSw0, hSw1, hSw2, hSw3, hSw4, hSw5⟩ := hSw
              go_simp
              try (with_reducible rfl)
            try simp only [Act.put, List.setIfInBounds_toArray, List.set_cons_zero, List.set_cons_succ]
            refine wpAnyH_take (i := 8) (oi := { dst := some 57, op := Op.binOp BinOp.neq 3 (Operand.tmp 55) (Operand.tmp 56) 3, type := 4, pos := "law.go:66", after := #[{ on := 6, ground := Ground.data }, { on := 7, ground := Ground.data }, { on := 4, ground := Ground.guard }], guard := some (4, false) }) (v := ?_) rfl (by kernel_rfl) (by kernel_rfl) (by kernel_rfl) (fun _ _ _ h => h) (Or.inl ⟨by rfl, ?_⟩) (by assumption) ?_
            rotate_left
            · intro w hSw
              obtain ⟨hSw0, hSw1, hSw2, hSw3, hSw4, hSw5⟩ := hSw
              go_simp
              try (with_reducible rfl)
            try simp only [Act.put, List.setIfInBounds_toArray, List.set_cons_zero, List.set_cons_succ]
            refine wpAnyH_take (i := 9) (oi := { dst := some 58, op := Op.pick (Operand.tmp 53) (Operand.const (Value.bool true)) (Operand.tmp 57), type := 4, pos := "law.go:66", after := #[{ on := 4, ground := Ground.data }, { on := 8, ground := Ground.data }], guard := none }) (v := ?_) rfl (by kernel_rfl) (by kernel_rfl) (by kernel_rfl) (fun _ _ _ h => h) (Or.inl ⟨by rfl, ?_⟩) (by assumption) ?_
            rotate_left
            · intro w hSw
              obtain ⟨hSw0, hSw1, hSw2, hSw3, hSw4, hSw5⟩ := hSw
              go_simp
              try (with_reducible rfl)
            try simp only [Act.put, List.setIfInBounds_toArray, List.set_cons_zero, List.set_cons_succ]
            refine wpAnyH_take (i := 10) (oi := { dst := some 59, op := Op.move (Operand.tmp 58), type := 4, pos := "law.go:66", after := #[{ on := 9, ground := Ground.data }, { on := 4, ground := Ground.chain }], guard := none }) (v := ?_) rfl (by kernel_rfl) (by kernel_rfl) (by kernel_rfl) (fun _ _ _ h => h) (Or.inl ⟨by rfl, ?_⟩) (by assumption) ?_
            rotate_left
            · intro w hSw
              obtain ⟨hSw0, hSw1, hSw2, hSw3, hSw4, hSw5⟩ := hSw
              go_simp
              try (with_reducible rfl)
            try simp only [Act.put, List.setIfInBounds_toArray, List.set_cons_zero, List.set_cons_succ]
            refine wpAnyH_take (i := 11) (oi := { dst := some 60, op := Op.load 25 (Operand.tmp 4), type := 25, pos := "law.go:66", after := #[{ on := 10, ground := Ground.guard }], guard := some (10, false) }) (v := ?_) rfl (by kernel_rfl) (by kernel_rfl) (by kernel_rfl) (fun _ _ _ h => h) (Or.inl ⟨by rfl, ?_⟩) (by assumption) ?_
            rotate_left
            · intro w hSw
              obtain ⟨hSw0, hSw1, hSw2, hSw3, hSw4, hSw5⟩ := hSw
              go_simp
              try (with_reducible rfl)
            try simp only [Act.put, List.setIfInBounds_toArray, List.set_cons_zero, List.set_cons_succ]
            refine wpAnyH_take (i := 12) (oi := { dst := some 61, op := Op.move (Operand.tmp 1), type := 3, pos := "law.go:66", after := #[{ on := 10, ground := Ground.guard }], guard := some (10, false) }) (v := ?_) rfl (by kernel_rfl) (by kernel_rfl) (by kernel_rfl) (fun _ _ _ h => h) (Or.inl ⟨by rfl, ?_⟩) (by assumption) ?_
            rotate_left
            · intro w hSw
              obtain ⟨hSw0, hSw1, hSw2, hSw3, hSw4, hSw5⟩ := hSw
              go_simp
              try (with_reducible rfl)
            try simp only [Act.put, List.setIfInBounds_toArray, List.set_cons_zero, List.set_cons_succ]
            refine wpAnyH_take (i := 13) (oi := { dst := some 62, op := Op.move (Operand.tmp 1), type := 3, pos := "law.go:66", after := #[{ on := 10, ground := Ground.guard }], guard := some (10, false) }) (v := ?_) rfl (by kernel_rfl) (by kernel_rfl) (by kernel_rfl) (fun _ _ _ h => h) (Or.inl ⟨by rfl, ?_⟩) (by assumption) ?_
            rotate_left
            · intro w hSw
              obtain ⟨hSw0, hSw1, hSw2, hSw3, hSw4, hSw5⟩ := hSw
              go_simp
              try (with_reducible rfl)
            try simp only [Act.put, List.setIfInBounds_toArray, List.set_cons_zero, List.set_cons_succ]
            refine wpAnyH_take (i := 15) (oi := { dst := some 64, op := Op.move (Operand.tmp 10), type := 38, pos := "law.go:66", after := #[{ on := 10, ground := Ground.guard }], guard := some (10, false) }) (v := ?_) rfl (by kernel_rfl) (by kernel_rfl) (by kernel_rfl) (fun _ _ _ h => h) (Or.inl ⟨by rfl, ?_⟩) (by assumption) ?_
            rotate_left
            · intro w hSw
              obtain ⟨hSw0, hSw1, hSw2, hSw3, hSw4, hSw5⟩ := hSw
              go_simp
              try (with_reducible rfl)
            try simp only [Act.put, List.setIfInBounds_toArray, List.set_cons_zero, List.set_cons_succ]
            refine wpAnyH_take (i := 16) (oi := { dst := some 65, op := Op.move (Operand.tmp 1), type := 3, pos := "law.go:66", after := #[{ on := 10, ground := Ground.guard }], guard := some (10, false) }) (v := ?_) rfl (by kernel_rfl) (by kernel_rfl) (by kernel_rfl) (fun _ _ _ h => h) (Or.inl ⟨by rfl, ?_⟩) (by assumption) ?_
            rotate_left
            · intro w hSw
              obtain ⟨hSw0, hSw1, hSw2, hSw3, hSw4, hSw5⟩ := hSw
              go_simp
              try (with_reducible rfl)
            try simp only [Act.put, List.setIfInBounds_toArray, List.set_cons_zero, List.set_cons_succ]
            refine wpAnyH_take (i := 17) (oi := { dst := some 66, op := Op.indexAddr 38 (Operand.tmp 64) (Operand.tmp 65), type := 0, pos := "law.go:66", after := #[{ on := 15, ground := Ground.data }, { on := 16, ground := Ground.data }, { on := 10, ground := Ground.guard }], guard := some (10, false) }) (v := ?_) rfl (by kernel_rfl) (by kernel_rfl) (by kernel_rfl) (fun _ _ _ h => h) (Or.inl ⟨by rfl, ?_⟩) (by assumption) ?_
            rotate_left
            · intro w hSw
              obtain ⟨hSw0, hSw1, hSw2, hSw3, hSw4, hSw5⟩ := hSw
              go_simp
              try (with_reducible rfl)
            try simp only [Act.put, List.setIfInBounds_toArray, List.set_cons_zero, List.set_cons_succ]
            refine wpAnyH_take (i := 18) (oi := { dst := some 67, op := Op.load 4 (Operand.tmp 66), type := 4, pos := "law.go:66", after := #[{ on := 17, ground := Ground.data }, { on := 10, ground := Ground.guard }], guard := some (10, false) }) (v := ?_) rfl (by kernel_rfl) (by kernel_rfl) (by kernel_rfl) (fun _ _ _ h => h) (Or.inl ⟨by rfl, ?_⟩) (by assumption) ?_
            rotate_left
            · intro w hSw
              obtain ⟨hSw0, hSw1, hSw2, hSw3, hSw4, hSw5⟩ := hSw
              go_simp
              try (with_reducible rfl)
            try simp only [Act.put, List.setIfInBounds_toArray, List.set_cons_zero, List.set_cons_succ]
            refine wpAnyH_ready (rs := [14]) (by kernel_rfl) (by simp) ?_
            refine AllReadyH.cons (o := { dst := some 63, op := Op.call { callee := Callee.value (Operand.func 23), args := #[Operand.tmp 60, Operand.tmp 61, Operand.tmp 62], argTypes := #[25, 3, 3] }, type := 4, pos := "law.go:66", after := #[{ on := 11, ground := Ground.data }, { on := 12, ground := Ground.data }, { on := 13, ground := Ground.data }, { on := 10, ground := Ground.chain }, { on := 10, ground := Ground.guard }], guard := some (10, false) }) rfl (fun K hK => ?_) ?_
            · go_simp
              (with_reducible refine' (caa _ ?pre).mono ?_)
              case pre => (refine ⟨?_, ?_, ?_, ?_, ?_, ?_⟩ <;> (first | (with_reducible assumption) | (rw [World.cell?_drew]; with_reducible assumption) | (with_reducible apply below_drew; with_reducible assumption) | (simp <;> omega) | omega))
              rintro e wsa ⟨rfl, sa0, sa1, sa2, sa3, sa4, sa5⟩
              try go_simp
              refine hK.out _ _ ⟨sa0, sa1, sa2, sa3, sa4, sa5⟩ (fun hHeld => ?_)
              clear hK K
              try simp only [Act.put, List.setIfInBounds_toArray, List.set_cons_zero, List.set_cons_succ]
              refine wpAnyH_take (i := 19) (oi := { dst := some 68, op := Op.binOp BinOp.neq 4 (Operand.tmp 63) (Operand.tmp 67) 4, type := 4, pos := "law.go:66", after := #[{ on := 14, ground := Ground.data }, { on := 18, ground := Ground.data }, { on := 10, ground := Ground.guard }], guard := some (10, false) }) (v := ?_) rfl (by kernel_rfl) (by kernel_rfl) (by kernel_rfl) (fun _ _ _ h => h) (Or.inl ⟨by rfl, ?_⟩) (by assumption) ?_
              rotate_left
              · intro w hSw
                obtain ⟨hSw0, hSw1, hSw2, hSw3, hSw4, hSw5⟩ := hSw
                go_simp
                try (with_reducible rfl)
              try simp only [Act.put, List.setIfInBounds_toArray, List.set_cons_zero, List.set_cons_succ]
              refine wpAnyH_take (i := 20) (oi := { dst := some 69, op := Op.pick (Operand.tmp 59) (Operand.const (Value.bool true)) (Operand.tmp 68), type := 4, pos := "law.go:66", after := #[{ on := 10, ground := Ground.data }, { on := 19, ground := Ground.data }], guard := none }) (v := ?_) rfl (by kernel_rfl) (by kernel_rfl) (by kernel_rfl) (fun _ _ _ h => h) (Or.inl ⟨by rfl, ?_⟩) (by assumption) ?_
              rotate_left
              · intro w hSw
                obtain ⟨hSw0, hSw1, hSw2, hSw3, hSw4, hSw5⟩ := hSw
                go_simp
                try (with_reducible rfl)
              try simp only [Act.put, List.setIfInBounds_toArray, List.set_cons_zero, List.set_cons_succ]
              refine wpAnyH_take (i := 21) (oi := { dst := some 70, op := Op.move (Operand.tmp 69), type := 4, pos := "law.go:66", after := #[{ on := 20, ground := Ground.data }, { on := 14, ground := Ground.chain }], guard := none }) (v := ?_) rfl (by kernel_rfl) (by kernel_rfl) (by kernel_rfl) (fun _ _ _ h => h) (Or.inl ⟨by rfl, ?_⟩) (by assumption) ?_
              rotate_left
              · intro w hSw
                obtain ⟨hSw0, hSw1, hSw2, hSw3, hSw4, hSw5⟩ := hSw
                go_simp
                try (with_reducible rfl)
              try simp only [Act.put, List.setIfInBounds_toArray, List.set_cons_zero, List.set_cons_succ]
              refine wpAnyH_take (i := 22) (oi := { dst := some 71, op := Op.move (Operand.tmp 10), type := 38, pos := "law.go:66", after := #[{ on := 21, ground := Ground.guard }], guard := some (21, false) }) (v := ?_) rfl (by kernel_rfl) (by kernel_rfl) (by kernel_rfl) (fun _ _ _ h => h) (Or.inl ⟨by rfl, ?_⟩) (by assumption) ?_
              rotate_left
              · intro w hSw
                obtain ⟨hSw0, hSw1, hSw2, hSw3, hSw4, hSw5⟩ := hSw
                go_simp
                try (with_reducible rfl)
              try simp only [Act.put, List.setIfInBounds_toArray, List.set_cons_zero, List.set_cons_succ]
              refine wpAnyH_take (i := 23) (oi := { dst := some 72, op := Op.move (Operand.tmp 1), type := 3, pos := "law.go:66", after := #[{ on := 21, ground := Ground.guard }], guard := some (21, false) }) (v := ?_) rfl (by kernel_rfl) (by kernel_rfl) (by kernel_rfl) (fun _ _ _ h => h) (Or.inl ⟨by rfl, ?_⟩) (by assumption) ?_
              rotate_left
              · intro w hSw
                obtain ⟨hSw0, hSw1, hSw2, hSw3, hSw4, hSw5⟩ := hSw
                go_simp
                try (with_reducible rfl)
              try simp only [Act.put, List.setIfInBounds_toArray, List.set_cons_zero, List.set_cons_succ]
              refine wpAnyH_take (i := 24) (oi := { dst := some 73, op := Op.indexAddr 38 (Operand.tmp 71) (Operand.tmp 72), type := 0, pos := "law.go:66", after := #[{ on := 22, ground := Ground.data }, { on := 23, ground := Ground.data }, { on := 21, ground := Ground.guard }], guard := some (21, false) }) (v := ?_) rfl (by kernel_rfl) (by kernel_rfl) (by kernel_rfl) (fun _ _ _ h => h) (Or.inl ⟨by rfl, ?_⟩) (by assumption) ?_
              rotate_left
              · intro w hSw
                obtain ⟨hSw0, hSw1, hSw2, hSw3, hSw4, hSw5⟩ := hSw
                go_simp
                try (with_reducible rfl)
              try simp only [Act.put, List.setIfInBounds_toArray, List.set_cons_zero, List.set_cons_succ]
              refine wpAnyH_take (i := 25) (oi := { dst := some 74, op := Op.load 4 (Operand.tmp 73), type := 4, pos := "law.go:66", after := #[{ on := 24, ground := Ground.data }, { on := 21, ground := Ground.guard }], guard := some (21, false) }) (v := ?_) rfl (by kernel_rfl) (by kernel_rfl) (by kernel_rfl) (fun _ _ _ h => h) (Or.inl ⟨by rfl, ?_⟩) (by assumption) ?_
              rotate_left
              · intro w hSw
                obtain ⟨hSw0, hSw1, hSw2, hSw3, hSw4, hSw5⟩ := hSw
                go_simp
                try (with_reducible rfl)
              try simp only [Act.put, List.setIfInBounds_toArray, List.set_cons_zero, List.set_cons_succ]
              refine wpAnyH_take (i := 26) (oi := { dst := some 75, op := Op.move (Operand.tmp 74), type := 4, pos := "law.go:66", after := #[{ on := 25, ground := Ground.data }, { on := 21, ground := Ground.chain }, { on := 21, ground := Ground.guard }], guard := some (21, false) }) (v := ?_) rfl (by kernel_rfl) (by kernel_rfl) (by kernel_rfl) (fun _ _ _ h => h) (Or.inl ⟨by rfl, ?_⟩) (by assumption) ?_
              rotate_left
              · intro w hSw
                obtain ⟨hSw0, hSw1, hSw2, hSw3, hSw4, hSw5⟩ := hSw
                go_simp
                try (with_reducible rfl)
              try simp only [Act.put, List.setIfInBounds_toArray, List.set_cons_zero, List.set_cons_succ]
              refine wpAnyH_take (i := 27) (oi := { dst := some 76, op := Op.load 25 (Operand.tmp 4), type := 25, pos := "law.go:66", after := #[{ on := 26, ground := Ground.guard }], guard := some (26, true) }) (v := undef) rfl (by kernel_rfl) (by kernel_rfl) (by kernel_rfl) (fun _ _ _ h => h) (Or.inr ⟨by rfl, rfl⟩) (by assumption) ?_
              try simp only [Act.put, List.setIfInBounds_toArray, List.set_cons_zero, List.set_cons_succ]
              refine wpAnyH_take (i := 28) (oi := { dst := some 77, op := Op.move (Operand.tmp 1), type := 3, pos := "law.go:66", after := #[{ on := 26, ground := Ground.guard }], guard := some (26, true) }) (v := undef) rfl (by kernel_rfl) (by kernel_rfl) (by kernel_rfl) (fun _ _ _ h => h) (Or.inr ⟨by rfl, rfl⟩) (by assumption) ?_
              try simp only [Act.put, List.setIfInBounds_toArray, List.set_cons_zero, List.set_cons_succ]
              refine wpAnyH_take (i := 29) (oi := { dst := some 78, op := Op.call { callee := Callee.value (Operand.func 23), args := #[Operand.tmp 76, Operand.const (Value.int IntKind.i64 0), Operand.tmp 77], argTypes := #[25, 3, 3] }, type := 4, pos := "law.go:66", after := #[{ on := 27, ground := Ground.data }, { on := 28, ground := Ground.data }, { on := 26, ground := Ground.chain }, { on := 26, ground := Ground.guard }], guard := some (26, true) }) (v := undef) rfl (by kernel_rfl) (by kernel_rfl) (by kernel_rfl) (fun _ _ _ h => h) (Or.inr ⟨by rfl, rfl⟩) (by assumption) ?_
              try simp only [Act.put, List.setIfInBounds_toArray, List.set_cons_zero, List.set_cons_succ]
              refine wpAnyH_take (i := 30) (oi := { dst := some 79, op := Op.unOp UnOp.not 4 (Operand.tmp 78), type := 4, pos := "law.go:66", after := #[{ on := 29, ground := Ground.data }, { on := 26, ground := Ground.guard }], guard := some (26, true) }) (v := undef) rfl (by kernel_rfl) (by kernel_rfl) (by kernel_rfl) (fun _ _ _ h => h) (Or.inr ⟨by rfl, rfl⟩) (by assumption) ?_
              try simp only [Act.put, List.setIfInBounds_toArray, List.set_cons_zero, List.set_cons_succ]
              refine wpAnyH_take (i := 31) (oi := { dst := some 80, op := Op.pick (Operand.tmp 75) (Operand.tmp 79) (Operand.const (Value.bool false)), type := 4, pos := "law.go:66", after := #[{ on := 26, ground := Ground.data }, { on := 30, ground := Ground.data }, { on := 21, ground := Ground.guard }], guard := some (21, false) }) (v := ?_) rfl (by kernel_rfl) (by kernel_rfl) (by kernel_rfl) (fun _ _ _ h => h) (Or.inl ⟨by rfl, ?_⟩) (by assumption) ?_
              rotate_left
              · intro w hSw
                obtain ⟨hSw0, hSw1, hSw2, hSw3, hSw4, hSw5⟩ := hSw
                go_simp
                try (with_reducible rfl)
              try simp only [Act.put, List.setIfInBounds_toArray, List.set_cons_zero, List.set_cons_succ]
              refine wpAnyH_take (i := 32) (oi := { dst := some 81, op := Op.pick (Operand.tmp 70) (Operand.const (Value.bool true)) (Operand.tmp 80), type := 4, pos := "law.go:66", after := #[{ on := 21, ground := Ground.data }, { on := 31, ground := Ground.data }], guard := none }) (v := ?_) rfl (by kernel_rfl) (by kernel_rfl) (by kernel_rfl) (fun _ _ _ h => h) (Or.inl ⟨by rfl, ?_⟩) (by assumption) ?_
              rotate_left
              · intro w hSw
                obtain ⟨hSw0, hSw1, hSw2, hSw3, hSw4, hSw5⟩ := hSw
                go_simp
                try (with_reducible rfl)
              try simp only [Act.put, List.setIfInBounds_toArray, List.set_cons_zero, List.set_cons_succ]
              refine wpAnyH_done (by kernel_rfl) ?_ _
              refine NoPanic.normal ?_
              go_wp2_with fail
              go_meet
              exact ⟨rfl, sa5⟩
            exact AllReadyH.nil
          case true =>
            go_region_held3 (fun w' => w'.cell? ⟨W.heap.size, 0, none⟩ = some (.string nm) ∧ w'.cell? ⟨W.heap.size, 1, none⟩ = some (.slice pp pn pc) ∧ w'.cell? ⟨W.heap.size, 2, none⟩ = some (.int .i64 rt) ∧ w'.cell? ⟨W.heap.size, 3, none⟩ = some (.slice bp n bc) ∧ w'.cell? ⟨R1, a, none⟩ = some (.bool true) ∧ Below w4.heap.size w4 w')
              (((try dsimp only); (repeat' apply And.intro) <;> (first | (with_reducible assumption) | (rw [World.cell?_drew]; with_reducible assumption) | (with_reducible apply below_drew; with_reducible assumption) | (simp <;> omega))))
              (first
                | ((with_reducible refine' (caa _ ?pre).mono ?_)
                   case pre => (refine ⟨?_, ?_, ?_, ?_, ?_, ?_⟩ <;> (first | (with_reducible assumption) | (rw [World.cell?_drew]; with_reducible assumption) | (with_reducible apply below_drew; with_reducible assumption) | (simp <;> omega) | omega))
                   rintro e wsa ⟨rfl, sa0, sa1, sa2, sa3, sa4, sa5⟩)
                | ((with_reducible refine' (c0a _ ?pre).mono ?_)
                   case pre => (refine ⟨?_, ?_, ?_, ?_, ?_, ?_⟩ <;> (first | (with_reducible assumption) | (rw [World.cell?_drew]; with_reducible assumption) | (with_reducible apply below_drew; with_reducible assumption) | (simp <;> omega) | omega))
                   rintro e wsb ⟨rfl, sb0, sb1, sb2, sb3, sb4, sb5⟩))
            all_goals
              go_wp2_with fail
              go_meet
              exact ⟨rfl, sb5⟩
        case rest =>
          obtain ⟨rfl, hb5⟩ := hcut
          generalize wc = w5 at *
          clear caa c0a
          have cab := HCC.out.1
          have cbc := HCC.out.2.1
          go_upto_region 10 with fail
          go_cut [12, 13] (fun s12 s13 wx => s12 = .bool ab ∧ s13 = .bool bc' ∧ Below w4.heap.size w4 wx)
          case first =>
            obtain ⟨k0, k1, k2, k3, k4, k5⟩ := HM.out.2 w5 hb5
            go_region_held3 (fun w' => w'.cell? ⟨W.heap.size, 0, none⟩ = some (.string nm) ∧ w'.cell? ⟨W.heap.size, 1, none⟩ = some (.slice pp pn pc) ∧ w'.cell? ⟨W.heap.size, 2, none⟩ = some (.int .i64 rt) ∧ w'.cell? ⟨W.heap.size, 3, none⟩ = some (.slice bp n bc) ∧ w'.cell? ⟨R1, a, none⟩ = some (.bool ra) ∧ Below w4.heap.size w4 w')
              (((try dsimp only); (repeat' apply And.intro) <;> (first | (with_reducible assumption) | (rw [World.cell?_drew]; with_reducible assumption) | (with_reducible apply below_drew; with_reducible assumption) | (simp <;> omega))))
              (first
                | ((with_reducible refine' (cab _ ?pre).mono ?_)
                   case pre => (refine ⟨?_, ?_, ?_, ?_, ?_, ?_⟩ <;> (first | (with_reducible assumption) | (rw [World.cell?_drew]; with_reducible assumption) | (with_reducible apply below_drew; with_reducible assumption) | (simp <;> omega) | omega))
                   rintro e wsa ⟨rfl, sa0, sa1, sa2, sa3, sa4, sa5⟩)
                | ((with_reducible refine' (cbc _ ?pre).mono ?_)
                   case pre => (refine ⟨?_, ?_, ?_, ?_, ?_, ?_⟩ <;> (first | (with_reducible assumption) | (rw [World.cell?_drew]; with_reducible assumption) | (with_reducible apply below_drew; with_reducible assumption) | (simp <;> omega) | omega))
                   rintro e wsb ⟨rfl, sb0, sb1, sb2, sb3, sb4, sb5⟩))
            all_goals
              go_wp2_with fail
              go_meet
              exact ⟨rfl, rfl, sb5⟩
          case rest =>
            obtain ⟨rfl, rfl, hb6⟩ := hcut
            generalize wc = w6 at *
            clear cab cbc hb5
            have cba := HCC.out.2.2.1
            have cac := HCC.out.2.2.2
            go_upto_region 11 with fail
            go_cut [114] (fun s114 wx => s114 = .bool false ∧ Below w4.heap.size w4 wx)
            case first =>
              have hM := HM.out.2 w6 hb6
              obtain ⟨k0, k1, k2, k3, k4, k5⟩ := hM
              by_cases hne : a = b
              · have hd1 : ((a : Int) == (b : Int)) = true := by simp [hne]
                have hd2 : ((a : Int) != (b : Int)) = false := by simp [hne]
                have hd3 : decide ((a : Int) = (b : Int)) = true := by simp [hne]
                clear hne
                cases ab
                case false =>
                  go_wp2_with fail
                  go_meet
                  exact ⟨rfl, hb6⟩
                case true =>
                  cases bc'
                  case false =>
                    go_wp2_with fail
                    go_meet
                    exact ⟨rfl, hb6⟩
                  case true =>
                    obtain rfl := HF.out.2 (by first | rfl | trivial) (by first | rfl | trivial)
                    go_wp2_with fail
                    refine (cac w6 ⟨k0, k1, k2, k3, k4, k5⟩).mono ?_
                    rintro e wsa ⟨rfl, sa0, sa1, sa2, sa3, sa4, sa5⟩
                    clear k0 k1 k2 k3 k4 k5
                    go_wp2_with fail
                    go_meet
                    exact ⟨rfl, sa5⟩
              · have hd1 : ((a : Int) == (b : Int)) = false := by simp; omega
                have hd2 : ((a : Int) != (b : Int)) = true := by simp; omega
                have hd3 : decide ((a : Int) = (b : Int)) = false := by simp; omega
                cases ab
                case false =>
                  clear hne
                  go_wp2_with fail
                  go_meet
                  exact ⟨rfl, hb6⟩
                case true =>
                  obtain rfl := HF.out.1 (by first | rfl | trivial) hne
                  clear hne
                  go_wp2_with fail
                  refine (cba w6 ⟨k0, k1, k2, k3, k4, k5⟩).mono ?_
                  rintro e wsb ⟨rfl, sb0, sb1, sb2, sb3, sb4, sb5⟩
                  clear k0 k1 k2 k3 k4 k5
                  cases bc'
                  case false =>
                    go_wp2_with fail
                    go_meet
                    exact ⟨rfl, sb5⟩
                  case true =>
                    obtain rfl := HF.out.2 (by first | rfl | trivial) (by first | rfl | trivial)
                    go_wp2_with fail
                    refine (cac wsb ⟨sb0, sb1, sb2, sb3, sb4, sb5⟩).mono ?_
                    rintro e wsa ⟨rfl, sa0, sa1, sa2, sa3, sa4, sa5⟩
                    clear sb0 sb1 sb2 sb3 sb4 sb5
                    go_wp2_with fail
                    go_meet
                    exact ⟨rfl, sa5⟩
            case rest =>
              obtain ⟨rfl, hb7⟩ := hcut
              generalize wc = w7 at *
              clear cba cac hb6 HCC HF
              go_wp2_with fail
              go_loopw [14, 15] (fun t14 t15 wr => ∃ (x : Int) (i : Nat), t14 = .int .i64 x ∧ t15 = .int .i64 i ∧ Upw S n a b i x ∧ Below w4.heap.size w4 wr) (fun _ t15 _ => n - (intOf t15).toNat)
              case atStart => exact ⟨b, 0, rfl, rfl, Upw.start hbn, hb7⟩
              case round =>
                obtain ⟨x, i, rfl, rfl, hu, hb⟩ := hrel
                have hin : decide ((i : Int) ≤ (n : Int)) = true := by simp; exact hu.fin
                have hin2 : i ≤ n := hu.fin
                have hbB := Lib.hid (HM.out.1 wr hb)
                by_cases hx : x < 0 ∨ x = (a : Int)
                · have hfin := hu.ends hbn hx
                  rw [HE.out.1, HE.out.2] at hfin
                  have hc1 := hbB.out.1 a han
                  have hc2 := hbB.out.1 b hbn
                  rw [HE.out.1] at hc1
                  obtain ⟨rb, erb⟩ : ∃ rb, rchB S b = rb := ⟨_, rfl⟩
                  rw [erb] at hc2 hfin
                  have HFF := Lib.hid hfin
                  clear hfin hb hu erb
                  by_cases hxa : x = (a : Int)
                  · subst hxa
                    have hfin := HFF.out
                    have h0 : decide ((0 : Int) ≤ (a : Int)) = true := by simp
                    have h1 : decide ((a : Int) < (n : Int)) = true := by simp; omega
                    cases ra <;> cases rb <;> cases ab <;> (first | (exfalso; revert hfin; simp; done) | (clear hfin; go_wp2_with fail; go_ret; exact ⟨rfl, hbB.out.2.1⟩))
                  · have hfin := HFF.out
                    rw [decide_eq_false hxa] at hfin
                    have h0 : decide ((0 : Int) ≤ x) = false := by simp; omega
                    have h1 : (x == (a : Int)) = false := by simp [hxa]
                    have h2 : decide (x = (a : Int)) = false := by simp [hxa]
                    cases ab <;> (first | (exfalso; revert hfin; simp; done) | (clear hfin; go_wp2_with fail; go_ret; exact ⟨rfl, hbB.out.2.1⟩))
                · obtain ⟨y, rfl⟩ : ∃ y : Nat, x = (y : Int) := ⟨x.toNat, by omega⟩
                  have hyn := hu.lt y rfl
                  have hst := hu.step HN.out (fun e => hx (.inr (by omega)))
                  have hcu := HU.out.cell hb hyn
                  obtain ⟨u, eu⟩ : ∃ u, upI S y = u := ⟨_, rfl⟩
                  rw [eu] at hst hcu
                  have HST := Lib.hid (And.intro hst hb)
                  have h0 : decide ((0 : Int) ≤ (y : Int)) = true := by simp
                  have h1 : decide ((y : Int) < (n : Int)) = true := by simp; omega
                  have h2 : ((y : Int) == (a : Int)) = false := by simp; omega
                  have h3 : ((y : Int) != (a : Int)) = true := by simp; omega
                  have h4 : decide ((y : Int) = (a : Int)) = false := by simp; omega
                  clear hst hb hu hx eu hbB
                  go_wp2_with fail
                  exact ⟨⟨u, i + 1, rfl, by go_num, HST.out.1.2, HST.out.2⟩, by have := HST.out.1.1; simp [intOf] <;> omega⟩
end Go.Proofs.Ytphdhndljgihmaa
