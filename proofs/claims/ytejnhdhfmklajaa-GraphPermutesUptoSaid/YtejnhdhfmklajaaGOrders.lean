/- The law GraphOrders: its walk. -/
import Derived.Test.YtejnhdhfmklajaaGPairs
namespace Go.Proofs.Ytejnhdhfmklajaa
open Go.RowKit Go.Maps
set_option linter.unusedVariables false
set_option linter.unusedSimpArgs false

def posN (L : List Nat) (b : Nat) : Nat := if b ∈ L then L.idxOf b + 1 else 0
def atN (L : List Nat) (i b : Nat) : Nat := if b ∈ L.take i then L.idxOf b + 1 else 0
theorem atN_0 (L : List Nat) (b : Nat) : atN L 0 b = 0 := by simp [atN]
theorem atN_end (L : List Nat) (b : Nat) : atN L L.length b = posN L b := by simp [atN, posN]
theorem atN_new {L : List Nat} (hn : L.Nodup) {i : Nat} (hi : i < L.length) : atN L i L[i] = 0 := by
  unfold atN
  rw [if_neg]
  intro h
  obtain ⟨k, hk, e⟩ := List.mem_iff_getElem.1 h
  rw [List.getElem_take] at e
  have hk' : k < i := by rw [List.length_take] at hk; omega
  have := (List.getElem_inj hn).1 e
  omega
theorem atN_step {L : List Nat} (hn : L.Nodup) {i : Nat} (hi : i < L.length) (b : Nat) : atN L (i + 1) b = if b = L[i] then i + 1 else atN L i b := by
  unfold atN
  simp only [mem_take_succ L i b hi]
  by_cases e : b = L[i]
  · rw [if_pos e, if_pos (.inr e), e, hn.idxOf_getElem i hi]
  · rw [if_neg e]
    simp only [e, or_false]
theorem posN_pos (L : List Nat) (b : Nat) : 0 < posN L b ↔ b ∈ L := by
  unfold posN
  by_cases h : b ∈ L <;> simp [h]
theorem posN_le (L : List Nat) (b : Nat) : posN L b ≤ L.length := by
  unfold posN
  by_cases h : b ∈ L
  · rw [if_pos h]; exact List.idxOf_lt_length_of_mem h
  · rw [if_neg h]; exact Nat.zero_le _
theorem posN_ahead {L : List Nat} (hn : L.Nodup) {p x : Nat} (h : Ahead p x L) : 0 < posN L p ∧ posN L p < posN L x := by
  obtain ⟨l1, l2, rfl, hp⟩ := h
  have hx : x ∉ l1 := by
    intro hx
    have := (List.nodup_append.1 hn).2.2 x hx x (List.mem_cons_self ..)
    exact this rfl
  have h1 := List.idxOf_lt_length_of_mem hp
  unfold posN
  rw [if_pos (List.mem_append_left _ hp), if_pos (List.mem_append_right _ (List.mem_cons_self ..)), List.idxOf_append, List.idxOf_append, if_pos hp, if_neg hx, List.idxOf_cons_self]
  omega
def ahd (L M : List Nat) (b j : Nat) : Bool := decide (b = 0 ∨ ∃ x ∈ M.take j, 0 < posN L x ∧ posN L x < posN L b)
theorem ahd_0 (L M : List Nat) (b : Nat) : ahd L M b 0 = decide (b = 0) := by simp [ahd]
theorem ahd_step (L M : List Nat) (b : Nat) {j : Nat} (hj : j < M.length) : ahd L M b (j + 1) = (ahd L M b j || decide (0 < posN L M[j] ∧ posN L M[j] < posN L b)) := by
  unfold ahd
  rw [← Bool.decide_or]
  congr 1
  simp only [mem_take_succ M j _ hj]
  apply propext
  constructor
  · rintro (h | ⟨x, h | rfl, h2⟩)
    · exact .inl (.inl h)
    · exact .inl (.inr ⟨x, h, h2⟩)
    · exact .inr h2
  · rintro ((h | ⟨x, h, h2⟩) | h)
    · exact .inl h
    · exact .inr ⟨x, .inl h, h2⟩
    · exact .inr ⟨_, .inr rfl, h⟩
theorem ahd_end {S : Nat → List Nat} {n : Nat} {L : List Nat} (h : Ordered S n L) {b : Nat} (hb : b ∈ L) : ahd L (predUpto S n b) b (predUpto S n b).length = true := by
  unfold ahd
  rw [List.take_length]
  refine decide_eq_true ?_
  rcases h.pred b hb with e | ⟨p, hp, ha⟩
  · exact .inl e
  · refine .inr ⟨p, (mem_predUpto S n b p).2 ⟨?_, hp⟩, posN_ahead h.nd ha⟩
    obtain ⟨l1, l2, e, hm⟩ := ha
    exact h.lt p (by rw [e]; exact List.mem_append_left _ hm)
def OrdQ (p : Option Addr) (c : Nat) (L : List Nat) (w : World) : Prop := ListIn intC NoMem w.heap.size w p L.length c (ints L)
theorem OrdQ.all {p : Option Addr} {c : Nat} {L : List Nat} {w : World} (h : ListIn intC NoMem w.heap.size w p L.length c (ints L)) : ∀ u, Below w.heap.size w u → OrdQ p c L u := fun u hu => h.lasts lasts_NoMem hu hu.size
/-- Order's, Reach's and Preds' answers. -/
def ThreeO (W : World) (cs : List Value) (n : Nat) (M : Nat → List Int) (L : List Nat) (s4 s5 s6 : Value) (w : World) : Prop :=
  ∃ po co R1 vs R2, s4 = .slice po L.length co ∧ s5 = .slice (some ⟨R2, 0, none⟩) n n ∧ s6 = .slice (some ⟨R1, 0, none⟩) n n ∧ Past W.heap.size W w ∧ Box W.heap.size cs w ∧ OrdQ po co L w ∧ LL R1 n vs M w ∧ w.rowIs R2 4 n (fun i => .bool (decide (i ∈ L)))
set_option maxRecDepth 100000 in
set_option maxHeartbeats 4000000 in
theorem orders_walk (W : World) (f : LFn) (hf : FnIn W.heap.size W f) (hs : FnSm f) (hbs : f.bs.length ≤ 1048576) :
    Calls Try.prog 4 #[.agg (fnC f).toArray] W fun e w' => e = .returned (.bool true) ∧ Below W.heap.size W w' := by
  have cl := lives_any
  have hSn : ∀ b, (succP (fnD f).bs b).Nodup ∧ ∀ t ∈ succP (fnD f).bs b, t < f.bs.length := fun b => ⟨succP_nodup _ b, fun t ht => by
    have := succP_lt _ _ t ht
    simpa [fnD] using this⟩
  obtain ⟨L, hL⟩ := order_ex (fun b => (hSn b).2)
  have hO := hL.ordered (fun b => (hSn b).2)
  have hP := (Past.refl (Nat.le_refl W.heap.size)).alloc (.cells (fnC f).toArray 25)
  have A1 : Box W.heap.size (fnC f) (W.alloc (.cells (fnC f).toArray 25)) := Box.new W rfl _ _
  have cF : ∀ w, Below W.heap.size W w → FnIn w.heap.size w f := fun w h => past_lasts lasts_Fn hf ⟨Nat.le_refl _, h⟩
  have cLo : ∀ w, Below W.heap.size W w → Calls Try.prog 8 #[.agg (fnC f).toArray] w (SomeBool w) := fun w h => Long_any f w (cF w h) hbs
  have cPr : ∀ w, Below W.heap.size W w → Calls Try.prog 18 #[.agg (fnC f).toArray] w (OwnLL f.bs.length (fun t => ints (predUpto (succP (fnD f).bs) f.bs.length t)) w) := fun w h => Preds_own f w (cF w h) hs hbs
  have cRe : ∀ w, Below W.heap.size W w → Calls Try.prog 14 #[.agg (fnC f).toArray] w (OwnBools f.bs.length (fun i => decide (i ∈ L)) w) := fun w h => Reach_own f w (cF w h) hs hbs L hL
  have cOr : ∀ w, Below W.heap.size W w → Calls Try.prog 16 #[.agg (fnC f).toArray] w (OwnInts L w) := fun w h => Order_own f w (cF w h) hs hbs L hL
  obtain ⟨S, eS⟩ : ∃ S, succP (fnD f).bs = S := ⟨_, rfl⟩
  simp only [eS] at hSn hO cPr
  obtain ⟨nm, pp, pn, pc, ps, rt, bp, bn, bc, bs⟩ := f
  obtain rfl : bn = bs.length := hf.2.1
  show Calls Try.prog 4 #[.agg #[.string nm, .slice pp pn pc, .int .i64 rt, .slice bp bs.length bc]] W _
  have hfc : fnC ⟨nm, pp, pn, pc, ps, rt, bp, bs.length, bc, bs⟩ = [.string nm, .slice pp pn pc, .int .i64 rt, .slice bp bs.length bc] := rfl
  rw [hfc] at A1 hP
  simp only [hfc] at cLo cPr cRe cOr
  obtain ⟨n, en⟩ : ∃ n, bs.length = n := ⟨_, rfl⟩
  simp only [en] at cLo cPr cRe cOr A1 hP hbs hSn hO ⊢
  have HC := Lib.hid (And.intro cLo (And.intro cPr (And.intro cRe cOr)))
  have HB := Lib.hid (And.intro hP A1)
  have HO := Lib.hid (And.intro hO hSn)
  clear cLo cPr cRe cOr hP A1 hO hSn cF hfc hf hs hL eS en
  go_enter Try.func4, Try.ntmps4
  go_wp2_with fail
  refine (cl _).mono ?_
  rintro e w1 ⟨rfl, hb1⟩
  have H1 := Lib.hid (And.intro (HB.out.1.trans ⟨HB.out.1.size, hb1.mono HB.out.1.size⟩) (HB.out.2.later hb1))
  clear hb1 cl HB
  have b0 := H1.out.2.get 0 _ rfl
  have b1 := H1.out.2.get 1 _ rfl
  have b2 := H1.out.2.get 2 _ rfl
  have b3 := H1.out.2.get 3 _ rfl
  have c1 := HC.out.1 w1 H1.out.1.2
  go_wp2_with fail
  refine c1.mono ?_
  rintro e w2 ⟨bl, rfl, hb2⟩
  have H2 := Lib.hid (And.intro (H1.out.1.trans ⟨H1.out.1.size, hb2.mono H1.out.1.size⟩) (H1.out.2.later hb2))
  clear hb2 c1 H1 b0 b1 b2 b3
  cases bl
  case true =>
    go_wp2
    go_ret
    exact ⟨rfl, H2.out.1.2⟩
  have k0 := H2.out.2.get 0 _ rfl
  have k1 := H2.out.2.get 1 _ rfl
  have k2 := H2.out.2.get 2 _ rfl
  have k3 := H2.out.2.get 3 _ rfl
  have kb := H2.out.1.2
  have kh : Hold [fun u => Past W.heap.size W u ∧ Box W.heap.size [.string nm, .slice pp pn pc, .int .i64 rt, .slice bp n bc] u] w2 := Hold.one (fun u hu => ⟨H2.out.1.trans ⟨H2.out.1.size, hu.mono H2.out.1.size⟩, H2.out.2.later hu⟩)
  go_upto_region 6 with fail
  have HS : ∀ w w' : World, (w.cell? ⟨W.heap.size, 0, none⟩ = some (.string nm) ∧ w.cell? ⟨W.heap.size, 1, none⟩ = some (.slice pp pn pc) ∧ w.cell? ⟨W.heap.size, 2, none⟩ = some (.int .i64 rt) ∧ w.cell? ⟨W.heap.size, 3, none⟩ = some (.slice bp n bc) ∧ W.heap.size < w.heap.size ∧ Below W.heap.size W w) → Below w.heap.size w w' → (w'.cell? ⟨W.heap.size, 0, none⟩ = some (.string nm) ∧ w'.cell? ⟨W.heap.size, 1, none⟩ = some (.slice pp pn pc) ∧ w'.cell? ⟨W.heap.size, 2, none⟩ = some (.int .i64 rt) ∧ w'.cell? ⟨W.heap.size, 3, none⟩ = some (.slice bp n bc) ∧ W.heap.size < w'.heap.size ∧ Below W.heap.size W w') := by
    rintro w w' ⟨k0, k1, k2, k3, k4, k5⟩ hb
    exact ⟨(hb.cell (p := ⟨W.heap.size, 0, none⟩) k4).trans k0, (hb.cell (p := ⟨W.heap.size, 1, none⟩) k4).trans k1, (hb.cell (p := ⟨W.heap.size, 2, none⟩) k4).trans k2, (hb.cell (p := ⟨W.heap.size, 3, none⟩) k4).trans k3, Nat.lt_of_lt_of_le k4 hb.size, k5.trans (hb.mono (Nat.le_of_lt k4))⟩
  have cP : ∀ F w, ((w.cell? ⟨W.heap.size, 0, none⟩ = some (.string nm) ∧ w.cell? ⟨W.heap.size, 1, none⟩ = some (.slice pp pn pc) ∧ w.cell? ⟨W.heap.size, 2, none⟩ = some (.int .i64 rt) ∧ w.cell? ⟨W.heap.size, 3, none⟩ = some (.slice bp n bc) ∧ W.heap.size < w.heap.size ∧ Below W.heap.size W w) ∧ Hold F w) → Calls Try.prog 18 #[.agg #[.string nm, .slice pp pn pc, .int .i64 rt, .slice bp n bc]] w fun e w' => ∃ R vs, e = .returned (.slice (some ⟨R, 0, none⟩) n n) ∧ w'.cell? ⟨W.heap.size, 0, none⟩ = some (.string nm) ∧ w'.cell? ⟨W.heap.size, 1, none⟩ = some (.slice pp pn pc) ∧ w'.cell? ⟨W.heap.size, 2, none⟩ = some (.int .i64 rt) ∧ w'.cell? ⟨W.heap.size, 3, none⟩ = some (.slice bp n bc) ∧ W.heap.size < w'.heap.size ∧ Below W.heap.size W w' ∧ Hold (PredQ R n vs (fun t => ints (predUpto S n t)) :: F) w' := by
    rintro F w ⟨k, kh⟩
    refine (HC.out.2.1 w k.2.2.2.2.2).mono ?_
    rintro e w' ⟨R, vs, he, hp, hR, hl⟩
    obtain ⟨q0, q1, q2, q3, q4, q5⟩ := HS w w' k hp.2
    exact ⟨R, vs, he, q0, q1, q2, q3, q4, q5, kh.cons hp.2 (PredQ.all hl)⟩
  have cR : ∀ F w, ((w.cell? ⟨W.heap.size, 0, none⟩ = some (.string nm) ∧ w.cell? ⟨W.heap.size, 1, none⟩ = some (.slice pp pn pc) ∧ w.cell? ⟨W.heap.size, 2, none⟩ = some (.int .i64 rt) ∧ w.cell? ⟨W.heap.size, 3, none⟩ = some (.slice bp n bc) ∧ W.heap.size < w.heap.size ∧ Below W.heap.size W w) ∧ Hold F w) → Calls Try.prog 14 #[.agg #[.string nm, .slice pp pn pc, .int .i64 rt, .slice bp n bc]] w fun e w' => ∃ R, e = .returned (.slice (some ⟨R, 0, none⟩) n n) ∧ w'.cell? ⟨W.heap.size, 0, none⟩ = some (.string nm) ∧ w'.cell? ⟨W.heap.size, 1, none⟩ = some (.slice pp pn pc) ∧ w'.cell? ⟨W.heap.size, 2, none⟩ = some (.int .i64 rt) ∧ w'.cell? ⟨W.heap.size, 3, none⟩ = some (.slice bp n bc) ∧ W.heap.size < w'.heap.size ∧ Below W.heap.size W w' ∧ Hold (ReachQ R n L :: F) w' := by
    rintro F w ⟨k, kh⟩
    refine (HC.out.2.2.1 w k.2.2.2.2.2).mono ?_
    rintro e w' ⟨R, he, hp, hR, hl⟩
    obtain ⟨q0, q1, q2, q3, q4, q5⟩ := HS w w' k hp.2
    exact ⟨R, he, q0, q1, q2, q3, q4, q5, kh.cons hp.2 (ReachQ.all hl)⟩
  have cO : ∀ F w, ((w.cell? ⟨W.heap.size, 0, none⟩ = some (.string nm) ∧ w.cell? ⟨W.heap.size, 1, none⟩ = some (.slice pp pn pc) ∧ w.cell? ⟨W.heap.size, 2, none⟩ = some (.int .i64 rt) ∧ w.cell? ⟨W.heap.size, 3, none⟩ = some (.slice bp n bc) ∧ W.heap.size < w.heap.size ∧ Below W.heap.size W w) ∧ Hold F w) → Calls Try.prog 16 #[.agg #[.string nm, .slice pp pn pc, .int .i64 rt, .slice bp n bc]] w fun e w' => ∃ p c, e = .returned (.slice p L.length c) ∧ w'.cell? ⟨W.heap.size, 0, none⟩ = some (.string nm) ∧ w'.cell? ⟨W.heap.size, 1, none⟩ = some (.slice pp pn pc) ∧ w'.cell? ⟨W.heap.size, 2, none⟩ = some (.int .i64 rt) ∧ w'.cell? ⟨W.heap.size, 3, none⟩ = some (.slice bp n bc) ∧ W.heap.size < w'.heap.size ∧ Below W.heap.size W w' ∧ Hold (OrdQ p c L :: F) w' := by
    rintro F w ⟨k, kh⟩
    refine (HC.out.2.2.2 w k.2.2.2.2.2).mono ?_
    rintro e w' ⟨p, c, he, hp, hl⟩
    obtain ⟨q0, q1, q2, q3, q4, q5⟩ := HS w w' k hp.2
    exact ⟨p, c, he, q0, q1, q2, q3, q4, q5, kh.cons hp.2 (OrdQ.all (ints_in hl (Nat.le_refl _)))⟩
  have kl : W.heap.size < w2.heap.size := H2.out.2.1
  clear HS
  go_cut [4, 5, 6] (fun s4 s5 s6 wx => ThreeO W [.string nm, .slice pp pn pc, .int .i64 rt, .slice bp n bc] n (fun t => ints (predUpto S n t)) L s4 s5 s6 wx)
  case first =>
    have hW2 := Lib.hid H2.out.2
    go_region_held3 (fun w' => w'.cell? ⟨W.heap.size, 0, none⟩ = some (.string nm) ∧ w'.cell? ⟨W.heap.size, 1, none⟩ = some (.slice pp pn pc) ∧ w'.cell? ⟨W.heap.size, 2, none⟩ = some (.int .i64 rt) ∧ w'.cell? ⟨W.heap.size, 3, none⟩ = some (.slice bp n bc) ∧ W.heap.size < w'.heap.size ∧ Below W.heap.size W w')
      (((try dsimp only); (repeat' apply And.intro) <;> (first | (with_reducible assumption) | (rw [World.cell?_drew]; with_reducible assumption) | (with_reducible apply below_drew; with_reducible assumption) | (simp <;> omega))))
      (first
        | ((with_reducible refine' (cO _ _ ?pre).mono ?_)
           case pre => (refine ⟨⟨?_, ?_, ?_, ?_, ?_, ?_⟩, ?_⟩ <;> (first | (with_reducible assumption) | (rw [World.cell?_drew]; with_reducible assumption) | (with_reducible apply below_drew; with_reducible assumption) | (with_reducible apply Hold.drew; with_reducible assumption) | (simp <;> omega) | omega))
           rintro e wo ⟨po, co, rfl, q0, q1, q2, q3, q4, q5, qh⟩)
        | ((with_reducible refine' (cR _ _ ?pre).mono ?_)
           case pre => (refine ⟨⟨?_, ?_, ?_, ?_, ?_, ?_⟩, ?_⟩ <;> (first | (with_reducible assumption) | (rw [World.cell?_drew]; with_reducible assumption) | (with_reducible apply below_drew; with_reducible assumption) | (with_reducible apply Hold.drew; with_reducible assumption) | (simp <;> omega) | omega))
           rintro e wr ⟨R2, rfl, r0, r1, r2, r3, r4, r5, rh⟩)
        | ((with_reducible refine' (cP _ _ ?pre).mono ?_)
           case pre => (refine ⟨⟨?_, ?_, ?_, ?_, ?_, ?_⟩, ?_⟩ <;> (first | (with_reducible assumption) | (rw [World.cell?_drew]; with_reducible assumption) | (with_reducible apply below_drew; with_reducible assumption) | (with_reducible apply Hold.drew; with_reducible assumption) | (simp <;> omega) | omega))
           rintro e wp ⟨R1, vs1, rfl, p0, p1, p2, p3, p4, p5, ph⟩))
    all_goals
      go_wp2_with fail
      go_meet
      have hq := ph.get (fun u => Past W.heap.size W u ∧ Box W.heap.size [.string nm, .slice pp pn pc, .int .i64 rt, .slice bp n bc] u) (.tail _ (.tail _ (.tail _ (.head _))))
      exact ⟨po, co, R1, vs1, R2, rfl, rfl, rfl, hq.1, hq.2, ph.get (OrdQ po co L) (.tail _ (.tail _ (.head _))), ph.get (PredQ R1 n vs1 _) (.head _), ph.get (ReachQ R2 n L) (.tail _ (.head _))⟩
  case rest =>
    obtain ⟨po, co, R1, vs, R2, rfl, rfl, rfl, hp, hbox, hord, hll, hr⟩ := hcut
    generalize wc = w3 at *
    have kA := hbox.get 3 _ rfl
    have hLn := nodup_lt n L HO.out.1.nd HO.out.1.lt
    have HK := Lib.hid (And.intro hp (And.intro hbox (And.intro hord (And.intro hll hr))))
    clear hp hbox hord hll hr cO cP cR kh k0 k1 k2 k3 kb kl
    go_upto_region 7 with fail
    go_cut [54] (fun s wx => s = .bool false ∧ wx = w3)
    case first =>
      by_cases h0 : n = 0
      · subst h0
        obtain rfl : L = [] := List.eq_nil_of_length_eq_zero (by omega)
        simp only [List.length_nil]
        clear hLn
        go_wp2_with fail
        go_meet
        exact ⟨rfl, rfl⟩
      · have hL0 := HO.out.1.bot (by omega)
        have hlp : 0 < L.length := by
          cases L with
          | nil => simp at hL0
          | cons y r => simp
        obtain ⟨a, rfl, ha, hc⟩ := int_row HK.out.2.2.1 0 (by rw [ints_len]; exact hlp)
        rw [ints_get L 0 hlp] at hc
        have hz : L[0] = 0 := by
          rw [List.head?_eq_getElem?, List.getElem?_eq_getElem hlp] at hL0
          exact Option.some.inj hL0
        rw [hz] at hc
        have hc0 : w3.cell? (a.add 0) = some (.int .i64 0) := hc
        have hc1 : w3.cell? a = some (.int .i64 0) := by rw [add_zero] at hc; exact hc
        have hd1 : decide ((0 : Int) < (n : Int)) = true := by simp; omega
        have hd2 : decide ((0 : Int) < (L.length : Int)) = true := by simp; omega
        have hd3 : decide (0 < n) = true := by simp; omega
        have hd4 : decide (0 < L.length) = true := by simp; omega
        have hpn : 0 < n := by omega
        clear hz hc hL0 h0
        go_wp2_with fail
        go_meet
        exact ⟨rfl, rfl⟩
    case rest =>
      obtain ⟨rfl, rfl⟩ := hcut
      generalize wc = w3 at *
      have hmk := run_make_row' (P := Try.prog) 22 3 _ _ Try.underlying22 infoInt rfl .i64 .i64 n (by omega) (by omega)
      have r0 := World.rowIs_made w3 (.int .i64 0) n 3
      have hb4 : Below w3.heap.size w3 (w3.alloc (.cells (madeCells #[.int .i64 0] n) 3)) := (Below.refl _ _).alloc (Nat.le_refl _) _
      have HR := Lib.hid (And.intro r0 hb4)
      clear r0 hb4
      go_wp2_with fail
      clear hmk
      go_loopw [59] (fun t wr => ∃ i : Nat, i ≤ L.length ∧ t = .int .i64 i ∧ Below w3.heap.size w3 wr ∧ wr.rowIs w3.heap.size 3 n (fun b => .int .i64 ((atN L i b : Nat) : Int))) (fun t _ => L.length - (intOf t).toNat)
      case atStart => exact ⟨0, Nat.zero_le _, rfl, HR.out.2, HR.out.1.congr (fun j _ => by rw [atN_0]; rfl)⟩
      case round =>
        obtain ⟨i, hile, rfl, hb, hra⟩ := hrel
        by_cases hlt : i < L.length
        · obtain ⟨a, rfl, ha, hc⟩ := int_row (OrdQ.all HK.out.2.2.1 wr hb) i (by rw [ints_len]; exact hlt)
          rw [ints_get L i hlt] at hc
          have hx := HO.out.1.lt _ (List.getElem_mem hlt)
          have hst := fun b => atN_step HO.out.1.nd hlt b
          have hnw := atN_new HO.out.1.nd hlt
          have hxm : L[i] ∈ L := List.getElem_mem hlt
          obtain ⟨x, ex⟩ : ∃ x, L[i] = x := ⟨_, rfl⟩
          rw [ex] at hc hx hnw hxm
          simp only [ex] at hst
          have ca := hra.cell hx
          rw [hnw] at ca
          have fa := hra.frozen x
          have cr : wr.cell? ⟨R2, x, none⟩ = some (.bool true) := ((rowIs_kept HK.out.2.2.2.2 (below_grown hb) (by simp)).cell hx).trans (by simp [hxm])
          have hnx : decide (n ≤ x) = false := by simp; omega
          have HH := Lib.hid (And.intro hb (And.intro hra hst))
          clear hb hra hst hnw hxm ex
          go_wp2_with fail
          have hset := (HH.out.2.1.set x (.int .i64 ((i : Int) + 1))).congr (g := fun b => .int .i64 ((atN L (i + 1) b : Nat) : Int)) (fun j hj => by
            simp only [HH.out.2.2 j]
            by_cases e : j = x
            · rw [if_pos e, if_pos e]; go_num
            · rw [if_neg e, if_neg e])
          refine ⟨⟨i + 1, by omega, by go_num, ?_, hset⟩, by simp [intOf]; omega⟩
          exact HH.out.1.setCell (show w3.heap.size ≤ (⟨w3.heap.size, x, none⟩ : Addr).block from Nat.le_refl _) _
        · obtain rfl : i = L.length := by omega
          have hrp := hra.congr (g := fun b => .int .i64 ((posN L b : Nat) : Int)) (fun j _ => by rw [atN_end])
          have hpp := HK.out.1.trans ⟨HK.out.1.size, hb.mono HK.out.1.size⟩
          have HL := Lib.hid (And.intro hrp (And.intro (HK.out.2.2.2.1.later hb) (And.intro (rowIs_kept HK.out.2.2.2.2 (below_grown hb) (by simp)) hpp)))
          have kB := (HK.out.2.1.later hb).get 3 _ rfl
          clear hb hra hrp hpp kA
          generalize wr = wl at *
          go_wp2_with fail
          clear kB
          go_loopw [94] (fun t wr => ∃ b : Nat, b ≤ n ∧ t = .int .i64 b ∧ Below wl.heap.size wl wr) (fun t _ => n - (intOf t).toNat)
          case atStart => exact ⟨0, Nat.zero_le _, rfl, Below.refl _ _⟩
          case round =>
            obtain ⟨b, hbn, rfl, hbw⟩ := hrel
            by_cases hltb : b < n
            · have ca := (rowIs_kept HL.out.1 (below_grown hbw) (by simp)).cell hltb
              have cr := (rowIs_kept HL.out.2.2.1 (below_grown hbw) (by simp)).cell hltb
              have hpp := posN_pos L b
              have hple := posN_le L b
              have HBW := Lib.hid hbw
              clear hbw
              by_cases hbL : b ∈ L
              · replace cr : wr.cell? ⟨R2, b, none⟩ = some (.bool true) := cr.trans (by simp [hbL])
                have hpos : 0 < posN L b := hpp.2 hbL
                clear hpp
                have HM : Hid (ahd L (predUpto S n b) b (predUpto S n b).length = true) := Lib.hid (ahd_end HO.out.1 hbL)
                clear hbL
                obtain ⟨pb, epb⟩ : ∃ pb, posN L b = pb := ⟨_, rfl⟩
                rw [epb] at ca hpos hple
                have HPB := Lib.hid epb
                have hd1 : decide ((0 : Int) < (pb : Int)) = true := by simp; omega
                have hd2 : decide (0 < pb) = true := by simp; omega
                clear epb
                go_wp2_with fail
                go_quiet (fail)
                all_goals
                  generalize hz : World.drewN wr _ = wd at *
                  have hbd : Below wr.heap.size wr wd := hz ▸ below_drewN _ _ _
                  have hbw := HBW.out.trans (hbd.mono HBW.out.size)
                  have hra := rowIs_kept HL.out.1 (below_grown hbw) (by simp)
                  have hll := HL.out.2.1.later hbw
                  have cp := hll.row.cell hltb
                  obtain ⟨q, cc, hq⟩ := hll.slice hltb
                  have hown := hll.own b hltb
                  rw [hq] at cp hown
                  have hbd2 : Below wl.heap.size wl wd := hbw
                  replace cr : wd.cell? ⟨R2, b, none⟩ = some (.bool true) := (hbd.cell (p := ⟨R2, b, none⟩) (Nat.lt_of_lt_of_le HL.out.2.2.1.lt HBW.out.size)).trans cr
                  have hM := fun x => (mem_predUpto S n b x)
                  obtain ⟨M, eM⟩ : ∃ M, predUpto S n b = M := ⟨_, rfl⟩
                  simp only [eM, ints_len] at cp hown hM HM
                  rw [← ints_len M] at hown
                  have hMl : M.length ≤ n := by rw [← eM]; exact predUpto_le S n b
                  have he : (((b : Nat) : Int) == 0) = ahd L M b 0 := by
                    rw [ahd_0]
                    by_cases e : b = 0
                    · subst e; simp
                    · simp [e]
                  obtain ⟨fd0, efd⟩ : ∃ fd0, ahd L M b 0 = fd0 := ⟨_, rfl⟩
                  rw [efd] at he
                  have HX := Lib.hid (And.intro hown (And.intro hM (And.intro hra (And.intro hbd2 efd))))
                  clear hz hbd hbw hra hll hq hown hM hbd2 efd eM ca hd1 hd2 HBW
                  go_wp2_with fail
                  clear he cp
                  go_loopw [11, 114] (fun q t wr2 => ∃ (j : Nat) (fd : Bool), j ≤ M.length ∧ t = .int .i64 j ∧ q = .bool fd ∧ Hid (fd = ahd L M b j) ∧ Below wd.heap.size wd wr2) (fun _ t _ => M.length - (intOf t).toNat)
                  case atStart => exact ⟨0, fd0, Nat.zero_le _, rfl, rfl, Lib.hid HX.out.2.2.2.2.symm, Below.refl _ _⟩
                  case round =>
                    obtain ⟨j, fd, hjle, rfl, rfl, hfd, hbj⟩ := hrel
                    have hownj := ownsRow_below HX.out.1 hbj
                    by_cases hltj : j < M.length
                    · obtain ⟨a, rfl, ha, hc⟩ := own_int hownj hltj
                      have hx : M[j] < n := ((HX.out.2.1 _).1 (List.getElem_mem hltj)).1
                      have hst := ahd_step L M b hltj
                      obtain ⟨x, ex⟩ : ∃ x, M[j] = x := ⟨_, rfl⟩
                      rw [ex] at hc hx hst
                      have cx := (rowIs_kept HX.out.2.2.1 (below_grown hbj) (by simp)).cell hx
                      have cb := (rowIs_kept HX.out.2.2.1 (below_grown hbj) (by simp)).cell hltb
                      rw [HPB.out] at cb hst
                      have hxle := posN_le L x
                      obtain ⟨px, epx⟩ : ∃ px, posN L x = px := ⟨_, rfl⟩
                      rw [epx] at cx hst hxle
                      rw [← hfd.out] at hst
                      have hnx : decide (n ≤ x) = false := by simp; omega
                      have HJ := Lib.hid (And.intro hbj hst)
                      clear hbj hst ex epx hownj hfd
                      cases fd
                      · by_cases h1 : 0 < px
                        · have hd5 : decide ((0 : Int) < (px : Int)) = true := by simp; omega
                          have hd6 : decide (0 < px) = true := by simp; omega
                          by_cases h2 : px < pb
                          · have hd7 : decide (px < pb) = true := by simp; omega
                            have HN : Hid (true = ahd L M b (j + 1)) := Lib.hid (by rw [HJ.out.2]; simp [h1, h2])
                            clear h1 h2
                            go_wp2_with fail
                            go_quiet (fail)
                            all_goals
                              go_wp2_with fail
                              exact ⟨⟨j + 1, true, by omega, by go_num, rfl, HN, HJ.out.1.trans (below_drewN _ _ _)⟩, by simp [intOf]; omega⟩
                          · have hd7 : decide (px < pb) = false := by simp; omega
                            have HN : Hid (false = ahd L M b (j + 1)) := Lib.hid (by rw [HJ.out.2]; simp [h1, h2])
                            clear h1 h2
                            go_wp2_with fail
                            go_quiet (fail)
                            all_goals
                              go_wp2_with fail
                              exact ⟨⟨j + 1, false, by omega, by go_num, rfl, HN, HJ.out.1.trans (below_drewN _ _ _)⟩, by simp [intOf]; omega⟩
                        · have hd5 : decide ((0 : Int) < (px : Int)) = false := by simp; omega
                          have hd6 : decide (0 < px) = false := by simp; omega
                          have HN : Hid (false = ahd L M b (j + 1)) := Lib.hid (by rw [HJ.out.2]; simp [h1])
                          clear h1
                          go_wp2_with fail
                          go_quiet (fail)
                          all_goals
                            go_wp2_with fail
                            exact ⟨⟨j + 1, false, by omega, by go_num, rfl, HN, HJ.out.1.trans (below_drewN _ _ _)⟩, by simp [intOf]; omega⟩
                      · have HN : Hid (true = ahd L M b (j + 1)) := Lib.hid (by rw [HJ.out.2]; simp)
                        go_wp2_with fail
                        go_quiet (fail)
                        all_goals
                          go_wp2_with fail
                          exact ⟨⟨j + 1, true, by omega, by go_num, rfl, HN, HJ.out.1.trans (below_drewN _ _ _)⟩, by simp [intOf]; omega⟩
                    · obtain rfl : j = M.length := by omega
                      replace cr : wr.cell? ⟨R2, b, none⟩ = some (.bool true) := (hbj.cell (p := ⟨R2, b, none⟩) (Nat.lt_of_lt_of_le HL.out.2.2.1.lt HX.out.2.2.2.1.size)).trans cr
                      have HJ := Lib.hid (HX.out.2.2.2.1.trans (hbj.mono HX.out.2.2.2.1.size))
                      clear hbj hownj
                      obtain rfl : fd = true := by rw [hfd.out]; exact HM.out
                      clear hfd
                      go_wp2_with fail
                      exact ⟨⟨b + 1, by omega, by go_num, HJ.out⟩, by simp [intOf]; omega⟩
              · replace cr : wr.cell? ⟨R2, b, none⟩ = some (.bool false) := cr.trans (by simp [hbL])
                have hpos : posN L b = 0 := by
                  have h1 : ¬ 0 < posN L b := fun h => hbL (hpp.1 h)
                  omega
                clear hpp hbL
                obtain ⟨pb, epb⟩ : ∃ pb, posN L b = pb := ⟨_, rfl⟩
                rw [epb] at ca hpos hple
                have HPB := Lib.hid epb
                have hd1 : decide ((0 : Int) < (pb : Int)) = false := by simp; omega
                have hd2 : decide (0 < pb) = false := by simp; omega
                clear epb hpos
                go_wp2_with fail
                go_quiet (fail)
                all_goals
                  generalize hz : World.drewN wr _ = wd at *
                  have hbd : Below wr.heap.size wr wd := hz ▸ below_drewN _ _ _
                  have hbw := HBW.out.trans (hbd.mono HBW.out.size)
                  have hra := rowIs_kept HL.out.1 (below_grown hbw) (by simp)
                  have hll := HL.out.2.1.later hbw
                  have cp := hll.row.cell hltb
                  obtain ⟨q, cc, hq⟩ := hll.slice hltb
                  have hown := hll.own b hltb
                  rw [hq] at cp hown
                  have hbd2 : Below wl.heap.size wl wd := hbw
                  replace cr : wd.cell? ⟨R2, b, none⟩ = some (.bool false) := (hbd.cell (p := ⟨R2, b, none⟩) (Nat.lt_of_lt_of_le HL.out.2.2.1.lt HBW.out.size)).trans cr
                  have hM := fun x => (mem_predUpto S n b x)
                  obtain ⟨M, eM⟩ : ∃ M, predUpto S n b = M := ⟨_, rfl⟩
                  simp only [eM, ints_len] at cp hown hM
                  rw [← ints_len M] at hown
                  have hMl : M.length ≤ n := by rw [← eM]; exact predUpto_le S n b
                  have he : (((b : Nat) : Int) == 0) = ahd L M b 0 := by
                    rw [ahd_0]
                    by_cases e : b = 0
                    · subst e; simp
                    · simp [e]
                  obtain ⟨fd0, efd⟩ : ∃ fd0, ahd L M b 0 = fd0 := ⟨_, rfl⟩
                  rw [efd] at he
                  have HX := Lib.hid (And.intro hown (And.intro hM (And.intro hra (And.intro hbd2 efd))))
                  clear hz hbd hbw hra hll hq hown hM hbd2 efd eM ca hd1 hd2 HBW
                  go_wp2_with fail
                  clear he cp
                  go_loopw [11, 114] (fun q t wr2 => ∃ (j : Nat) (fd : Bool), j ≤ M.length ∧ t = .int .i64 j ∧ q = .bool fd ∧ Hid (fd = ahd L M b j) ∧ Below wd.heap.size wd wr2) (fun _ t _ => M.length - (intOf t).toNat)
                  case atStart => exact ⟨0, fd0, Nat.zero_le _, rfl, rfl, Lib.hid HX.out.2.2.2.2.symm, Below.refl _ _⟩
                  case round =>
                    obtain ⟨j, fd, hjle, rfl, rfl, hfd, hbj⟩ := hrel
                    have hownj := ownsRow_below HX.out.1 hbj
                    by_cases hltj : j < M.length
                    · obtain ⟨a, rfl, ha, hc⟩ := own_int hownj hltj
                      have hx : M[j] < n := ((HX.out.2.1 _).1 (List.getElem_mem hltj)).1
                      have hst := ahd_step L M b hltj
                      obtain ⟨x, ex⟩ : ∃ x, M[j] = x := ⟨_, rfl⟩
                      rw [ex] at hc hx hst
                      have cx := (rowIs_kept HX.out.2.2.1 (below_grown hbj) (by simp)).cell hx
                      have cb := (rowIs_kept HX.out.2.2.1 (below_grown hbj) (by simp)).cell hltb
                      rw [HPB.out] at cb hst
                      have hxle := posN_le L x
                      obtain ⟨px, epx⟩ : ∃ px, posN L x = px := ⟨_, rfl⟩
                      rw [epx] at cx hst hxle
                      rw [← hfd.out] at hst
                      have hnx : decide (n ≤ x) = false := by simp; omega
                      have HJ := Lib.hid (And.intro hbj hst)
                      clear hbj hst ex epx hownj hfd
                      cases fd
                      · by_cases h1 : 0 < px
                        · have hd5 : decide ((0 : Int) < (px : Int)) = true := by simp; omega
                          have hd6 : decide (0 < px) = true := by simp; omega
                          by_cases h2 : px < pb
                          · have hd7 : decide (px < pb) = true := by simp; omega
                            have HN : Hid (true = ahd L M b (j + 1)) := Lib.hid (by rw [HJ.out.2]; simp [h1, h2])
                            clear h1 h2
                            go_wp2_with fail
                            go_quiet (fail)
                            all_goals
                              go_wp2_with fail
                              exact ⟨⟨j + 1, true, by omega, by go_num, rfl, HN, HJ.out.1.trans (below_drewN _ _ _)⟩, by simp [intOf]; omega⟩
                          · have hd7 : decide (px < pb) = false := by simp; omega
                            have HN : Hid (false = ahd L M b (j + 1)) := Lib.hid (by rw [HJ.out.2]; simp [h1, h2])
                            clear h1 h2
                            go_wp2_with fail
                            go_quiet (fail)
                            all_goals
                              go_wp2_with fail
                              exact ⟨⟨j + 1, false, by omega, by go_num, rfl, HN, HJ.out.1.trans (below_drewN _ _ _)⟩, by simp [intOf]; omega⟩
                        · have hd5 : decide ((0 : Int) < (px : Int)) = false := by simp; omega
                          have hd6 : decide (0 < px) = false := by simp; omega
                          have HN : Hid (false = ahd L M b (j + 1)) := Lib.hid (by rw [HJ.out.2]; simp [h1])
                          clear h1
                          go_wp2_with fail
                          go_quiet (fail)
                          all_goals
                            go_wp2_with fail
                            exact ⟨⟨j + 1, false, by omega, by go_num, rfl, HN, HJ.out.1.trans (below_drewN _ _ _)⟩, by simp [intOf]; omega⟩
                      · have HN : Hid (true = ahd L M b (j + 1)) := Lib.hid (by rw [HJ.out.2]; simp)
                        go_wp2_with fail
                        go_quiet (fail)
                        all_goals
                          go_wp2_with fail
                          exact ⟨⟨j + 1, true, by omega, by go_num, rfl, HN, HJ.out.1.trans (below_drewN _ _ _)⟩, by simp [intOf]; omega⟩
                    · obtain rfl : j = M.length := by omega
                      replace cr : wr.cell? ⟨R2, b, none⟩ = some (.bool false) := (hbj.cell (p := ⟨R2, b, none⟩) (Nat.lt_of_lt_of_le HL.out.2.2.1.lt HX.out.2.2.2.1.size)).trans cr
                      have HJ := Lib.hid (HX.out.2.2.2.1.trans (hbj.mono HX.out.2.2.2.1.size))
                      clear hbj hownj
                      clear hfd
                      go_wp2_with fail
                      exact ⟨⟨b + 1, by omega, by go_num, HJ.out⟩, by simp [intOf]; omega⟩
            · obtain rfl : b = n := by omega
              have HF := Lib.hid (HL.out.2.2.2.2.trans (hbw.mono HL.out.2.2.2.size))
              clear hbw
              go_wp2_with fail
              go_ret
              exact ⟨rfl, HF.out⟩
end Go.Proofs.Ytejnhdhfmklajaa
