/- The law GraphPairs: its walk. -/
import Derived.Test.YtejnhdhfmklajaaGLive
import Derived.Test.YtejnhdhfmklajaaBaseF
import Derived.Deep.RegionHeld3
import Derived.Deep.DeepCutAuto
import Derived.Deep.QuietTactic
import Derived.BigQuiet
import Derived.IntWalk
namespace Go.Proofs.Ytejnhdhfmklajaa
open Go.RowKit Go.Maps
set_option linter.unusedVariables false
set_option linter.unusedSimpArgs false

theorem fnsm_of {f : LFn} (hw : FnTw f) (hz : fnZ (fnD f) ≤ 1048576) : FnSm f := by
  intro c hc
  have h1 : 1 + codeZ (blkD c) ≤ blksZ (fnD f).bs := blksZ_mem (List.mem_map_of_mem hc)
  unfold fnZ at hz
  unfold tgtP
  cases hl : (blkD c).getLast? with
  | none => exact ⟨Nat.zero_le _, fun t ht => by simp at ht⟩
  | some x =>
    have hx : x ∈ blkD c := List.mem_of_getLast? hl
    have h2 := codeZ_mem hx
    obtain ⟨y, hy, rfl⟩ := List.mem_map.1 hx
    simp only
    split
    · refine ⟨?_, fun t ht => hw c hc y hy t ht⟩
      unfold insZ at h2
      omega
    · exact ⟨Nat.zero_le _, fun t ht => by simp at ht⟩
theorem bs_le {f : LFn} (hz : fnZ (fnD f) ≤ 1048576) : f.bs.length ≤ 1048576 := by
  have h1 := blksZ_len (fnD f).bs
  unfold fnZ at hz
  simp only [fnD, List.length_map] at h1 hz
  omega
/-! Sums over numbers. -/
def rsum (f : Nat → Nat) : Nat → Nat
  | 0 => 0
  | k + 1 => rsum f k + f k
theorem rsum_add (f g : Nat → Nat) : ∀ n, rsum (fun t => f t + g t) n = rsum f n + rsum g n
  | 0 => rfl
  | n + 1 => by unfold rsum; rw [rsum_add f g n]; omega
theorem rsum_congr {f g : Nat → Nat} : ∀ {n}, (∀ t, t < n → f t = g t) → rsum f n = rsum g n
  | 0, _ => rfl
  | n + 1, h => by unfold rsum; rw [rsum_congr fun t ht => h t (by omega), h n (Nat.lt_succ_self n)]
theorem rsum_zero : ∀ n, rsum (fun _ => 0) n = 0
  | 0 => rfl
  | n + 1 => by unfold rsum; rw [rsum_zero n]
theorem rsum_one (x : Nat) : ∀ n, rsum (fun t => if t = x then 1 else 0) n = if x < n then 1 else 0
  | 0 => by simp [rsum]
  | n + 1 => by
    unfold rsum
    rw [rsum_one x n]
    by_cases h1 : x < n
    · rw [if_pos h1, if_neg (by omega), if_pos (by omega)]
    · by_cases h2 : n = x
      · rw [if_neg h1, if_pos h2, if_pos (by omega)]
      · rw [if_neg h1, if_neg h2, if_neg (by omega)]
theorem rsum_mem {n : Nat} : ∀ l : List Nat, l.Nodup → (∀ x ∈ l, x < n) → rsum (fun t => if t ∈ l then 1 else 0) n = l.length
  | [], _, _ => by simp [rsum_zero]
  | a :: l, h1, h2 => by
    obtain ⟨ha, hl⟩ := List.nodup_cons.1 h1
    have e : ∀ t, t < n → (if t ∈ a :: l then 1 else 0) = (if t = a then 1 else 0) + (if t ∈ l then 1 else 0) := fun t _ => by
      by_cases e : t = a
      · subst e; simp [ha]
      · simp [e]
    rw [rsum_congr e, rsum_add, rsum_one, if_pos (h2 a (List.mem_cons_self ..)), rsum_mem l hl (fun x hx => h2 x (List.mem_cons_of_mem _ hx)), List.length_cons]
    omega
theorem rsum_mono (f : Nat → Nat) {a b : Nat} (h : a ≤ b) : rsum f a ≤ rsum f b := by
  induction b with
  | zero => obtain rfl : a = 0 := by omega
            exact Nat.le_refl _
  | succ b ih =>
    by_cases e : a = b + 1
    · subst e; exact Nat.le_refl _
    · have := ih (by omega)
      show rsum f a ≤ rsum f b + f b
      omega
theorem rsum_le (f : Nat → Nat) (m : Nat) (hf : ∀ t, f t ≤ m) : ∀ n, rsum f n ≤ n * m
  | 0 => by simp [rsum]
  | n + 1 => by
    unfold rsum
    have := rsum_le f m hf n
    have := hf n
    rw [Nat.succ_mul]; omega
theorem pairs_eq {S : Nat → List Nat} {n : Nat} (hS : ∀ b, (S b).Nodup ∧ ∀ t ∈ S b, t < n) : ∀ b, rsum (fun t => (predUpto S b t).length) n = rsum (fun x => (S x).length) b
  | 0 => by
    have : ∀ t, t < n → (predUpto S 0 t).length = 0 := fun t _ => rfl
    rw [rsum_congr this, rsum_zero]; rfl
  | b + 1 => by
    have e : ∀ t, t < n → (predUpto S (b + 1) t).length = (predUpto S b t).length + (if t ∈ S b then 1 else 0) := fun t _ => by
      rw [predUpto_succ, List.length_append]
      by_cases h : t ∈ S b <;> simp [h]
    rw [rsum_congr e, rsum_add, pairs_eq hS b, rsum_mem _ (hS b).1 (hS b).2]
    rfl
theorem predUpto_rises (S : Nat → List Nat) (b t : Nat) : (predUpto S b t).Pairwise (· < ·) := List.Pairwise.filter _ (List.pairwise_lt_range (n := b))
theorem mem_predUpto (S : Nat → List Nat) (b t x : Nat) : x ∈ predUpto S b t ↔ x < b ∧ t ∈ S x := by
  unfold predUpto
  rw [List.mem_filter, List.mem_range]
  simp
/-- Preds' and Reach's answers. -/
def TwoPR (W : World) (cs : List Value) (n : Nat) (M : Nat → List Int) (L : List Nat) (s4 s5 : Value) (w : World) : Prop :=
  ∃ R1 vs R2, s4 = .slice (some ⟨R1, 0, none⟩) n n ∧ s5 = .slice (some ⟨R2, 0, none⟩) n n ∧ Past W.heap.size W w ∧ Box W.heap.size cs w ∧ LL R1 n vs M w ∧ w.rowIs R2 4 n (fun i => .bool (decide (i ∈ L)))
def PredQ (R n : Nat) (vs : Nat → Value) (M : Nat → List Int) (w : World) : Prop := LL R n vs M w
def ReachQ (R n : Nat) (L : List Nat) (w : World) : Prop := w.rowIs R 4 n (fun i => .bool (decide (i ∈ L)))
theorem Hold.one {Q : World → Prop} {w : World} (h : ∀ u, Below w.heap.size w u → Q u) : Hold [Q] w := fun R hR => by obtain rfl := List.mem_singleton.1 hR; exact h
theorem own_int {w : World} {B : Nat} {p : Option Addr} {c : Nat} {M : List Nat} (h : w.ownsRow B 3 1 (.slice p (ints M).length c) (ints M).length ((ints M).flatMap intC)) {j : Nat} (hj : j < M.length) : ∃ a, p = some a ∧ a.block < w.heap.size ∧ w.cell? (a.add j) = some (.int .i64 (M[j] : Int)) := by
  rw [ints_len] at h
  have h1 := (lst_own (b := 0) h).1.2.2 j hj
  obtain ⟨a, e, h2, h3, _, _, h4⟩ := h1
  exact ⟨a, e, h3, h4⟩
theorem below_drewN (B : Nat) (w : World) (n : Nat) : Below B w (w.drewN n) := ⟨rfl, rfl, rfl, Nat.le_refl _, fun _ _ => rfl⟩
theorem PredQ.all {R n : Nat} {vs : Nat → Value} {M : Nat → List Int} {w : World} (h : LL R n vs M w) : ∀ u, Below w.heap.size w u → PredQ R n vs M u := fun u hu => h.later hu
theorem ReachQ.all {R n : Nat} {L : List Nat} {w : World} (h : w.rowIs R 4 n (fun i => .bool (decide (i ∈ L)))) : ∀ u, Below w.heap.size w u → ReachQ R n L u := fun u hu => rowIs_kept h (below_grown hu) (by simp)
set_option maxRecDepth 100000 in
set_option maxHeartbeats 4000000 in
theorem pairs_walk (W : World) (f : LFn) (hf : FnIn W.heap.size W f) (hs : FnSm f) (hbs : f.bs.length ≤ 1048576) :
    Calls Try.prog 5 #[.agg (fnC f).toArray] W fun e w' => e = .returned (.bool true) ∧ Below W.heap.size W w' := by
  have cl := lives_any
  have hSn : ∀ b, (succP (fnD f).bs b).Nodup ∧ ∀ t ∈ succP (fnD f).bs b, t < f.bs.length := fun b => ⟨succP_nodup _ b, fun t ht => by
    have := succP_lt _ _ t ht
    simpa [fnD] using this⟩
  obtain ⟨L, hL⟩ := order_ex (fun b => (hSn b).2)
  have hO := hL.ordered (fun b => (hSn b).2)
  have hP := (Past.refl (Nat.le_refl W.heap.size)).alloc (.cells (fnC f).toArray 25)
  have A1 : Box W.heap.size (fnC f) (W.alloc (.cells (fnC f).toArray 25)) := Box.new W rfl _ _
  have cF : ∀ w, Below W.heap.size W w → FnIn w.heap.size w f := fun w h => past_lasts lasts_Fn hf ⟨Nat.le_refl _, h⟩
  have cLo : ∀ w, Below W.heap.size W w → Calls Try.prog 8 #[.agg (fnC f).toArray] w (SomeBool w) := fun w h => Long_any f w (cF w h) hbs
  have cPr : ∀ w, Below W.heap.size W w → Calls Try.prog 18 #[.agg (fnC f).toArray] w (OwnLL f.bs.length (fun t => ints (predUpto (succP (fnD f).bs) f.bs.length t)) w) := fun w h => Preds_own f w (cF w h) hs hbs
  have cRe : ∀ w, Below W.heap.size W w → Calls Try.prog 14 #[.agg (fnC f).toArray] w (OwnBools f.bs.length (fun i => decide (i ∈ L)) w) := fun w h => Reach_own f w (cF w h) hs hbs L hL
  have cSu : ∀ (b : Nat) w, Below W.heap.size W w → Calls Try.prog 11 #[.agg (fnC f).toArray, .int .i64 b] w (OwnInts (succP (fnD f).bs b) w) := fun b w h => by
    have := Succs_own f b w (cF w h) hs
    rw [succI_nat] at this
    exact this
  obtain ⟨S, eS⟩ : ∃ S, succP (fnD f).bs = S := ⟨_, rfl⟩
  simp only [eS] at hSn hO cPr cSu
  obtain ⟨nm, pp, pn, pc, ps, rt, bp, bn, bc, bs⟩ := f
  obtain rfl : bn = bs.length := hf.2.1
  show Calls Try.prog 5 #[.agg #[.string nm, .slice pp pn pc, .int .i64 rt, .slice bp bs.length bc]] W _
  have hfc : fnC ⟨nm, pp, pn, pc, ps, rt, bp, bs.length, bc, bs⟩ = [.string nm, .slice pp pn pc, .int .i64 rt, .slice bp bs.length bc] := rfl
  rw [hfc] at A1 hP
  simp only [hfc] at cLo cPr cRe cSu
  obtain ⟨n, en⟩ : ∃ n, bs.length = n := ⟨_, rfl⟩
  simp only [en] at cLo cPr cRe cSu A1 hP hbs hSn hO ⊢
  have HC := Lib.hid (And.intro cLo (And.intro cPr (And.intro cRe cSu)))
  have HB := Lib.hid (And.intro hP A1)
  have HO := Lib.hid (And.intro hO hSn)
  clear cLo cPr cRe cSu hP A1 hO hSn cF hfc hf hs hL eS en
  go_enter Try.func5, Try.ntmps5
  go_wp2_with fail
  refine (cl _).mono ?_
  rintro e w1 ⟨rfl, hb1⟩
  have H1 := Lib.hid (And.intro (HB.out.1.trans ⟨HB.out.1.size, hb1.mono HB.out.1.size⟩) (HB.out.2.later hb1))
  clear hb1 cl HB
  have b0 := H1.out.2.get 0 _ rfl
  have b1 := H1.out.2.get 1 _ rfl
  have b2 := H1.out.2.get 2 _ rfl
  have b3 := H1.out.2.get 3 _ rfl
  have c1 := HC.out.1 w1 H1.out.1.2
  go_wp2_with fail
  refine c1.mono ?_
  rintro e w2 ⟨bl, rfl, hb2⟩
  have H2 := Lib.hid (And.intro (H1.out.1.trans ⟨H1.out.1.size, hb2.mono H1.out.1.size⟩) (H1.out.2.later hb2))
  clear hb2 c1 H1 b0 b1 b2 b3
  cases bl
  case true =>
    go_wp2
    go_ret
    exact ⟨rfl, H2.out.1.2⟩
  have k0 := H2.out.2.get 0 _ rfl
  have k1 := H2.out.2.get 1 _ rfl
  have k2 := H2.out.2.get 2 _ rfl
  have k3 := H2.out.2.get 3 _ rfl
  have kb := H2.out.1.2
  have kh : Hold [fun u => Past W.heap.size W u ∧ Box W.heap.size [.string nm, .slice pp pn pc, .int .i64 rt, .slice bp n bc] u] w2 := Hold.one (fun u hu => ⟨H2.out.1.trans ⟨H2.out.1.size, hu.mono H2.out.1.size⟩, H2.out.2.later hu⟩)
  go_upto_region 6 with fail
  have HS : ∀ w w' : World, (w.cell? ⟨W.heap.size, 0, none⟩ = some (.string nm) ∧ w.cell? ⟨W.heap.size, 1, none⟩ = some (.slice pp pn pc) ∧ w.cell? ⟨W.heap.size, 2, none⟩ = some (.int .i64 rt) ∧ w.cell? ⟨W.heap.size, 3, none⟩ = some (.slice bp n bc) ∧ W.heap.size < w.heap.size ∧ Below W.heap.size W w) → Below w.heap.size w w' → (w'.cell? ⟨W.heap.size, 0, none⟩ = some (.string nm) ∧ w'.cell? ⟨W.heap.size, 1, none⟩ = some (.slice pp pn pc) ∧ w'.cell? ⟨W.heap.size, 2, none⟩ = some (.int .i64 rt) ∧ w'.cell? ⟨W.heap.size, 3, none⟩ = some (.slice bp n bc) ∧ W.heap.size < w'.heap.size ∧ Below W.heap.size W w') := by
    rintro w w' ⟨k0, k1, k2, k3, k4, k5⟩ hb
    exact ⟨(hb.cell (p := ⟨W.heap.size, 0, none⟩) k4).trans k0, (hb.cell (p := ⟨W.heap.size, 1, none⟩) k4).trans k1, (hb.cell (p := ⟨W.heap.size, 2, none⟩) k4).trans k2, (hb.cell (p := ⟨W.heap.size, 3, none⟩) k4).trans k3, Nat.lt_of_lt_of_le k4 hb.size, k5.trans (hb.mono (Nat.le_of_lt k4))⟩
  have cP : ∀ F w, ((w.cell? ⟨W.heap.size, 0, none⟩ = some (.string nm) ∧ w.cell? ⟨W.heap.size, 1, none⟩ = some (.slice pp pn pc) ∧ w.cell? ⟨W.heap.size, 2, none⟩ = some (.int .i64 rt) ∧ w.cell? ⟨W.heap.size, 3, none⟩ = some (.slice bp n bc) ∧ W.heap.size < w.heap.size ∧ Below W.heap.size W w) ∧ Hold F w) → Calls Try.prog 18 #[.agg #[.string nm, .slice pp pn pc, .int .i64 rt, .slice bp n bc]] w fun e w' => ∃ R vs, e = .returned (.slice (some ⟨R, 0, none⟩) n n) ∧ w'.cell? ⟨W.heap.size, 0, none⟩ = some (.string nm) ∧ w'.cell? ⟨W.heap.size, 1, none⟩ = some (.slice pp pn pc) ∧ w'.cell? ⟨W.heap.size, 2, none⟩ = some (.int .i64 rt) ∧ w'.cell? ⟨W.heap.size, 3, none⟩ = some (.slice bp n bc) ∧ W.heap.size < w'.heap.size ∧ Below W.heap.size W w' ∧ Hold (PredQ R n vs (fun t => ints (predUpto S n t)) :: F) w' := by
    rintro F w ⟨k, kh⟩
    refine (HC.out.2.1 w k.2.2.2.2.2).mono ?_
    rintro e w' ⟨R, vs, he, hp, hR, hl⟩
    obtain ⟨q0, q1, q2, q3, q4, q5⟩ := HS w w' k hp.2
    exact ⟨R, vs, he, q0, q1, q2, q3, q4, q5, kh.cons hp.2 (PredQ.all hl)⟩
  have cR : ∀ F w, ((w.cell? ⟨W.heap.size, 0, none⟩ = some (.string nm) ∧ w.cell? ⟨W.heap.size, 1, none⟩ = some (.slice pp pn pc) ∧ w.cell? ⟨W.heap.size, 2, none⟩ = some (.int .i64 rt) ∧ w.cell? ⟨W.heap.size, 3, none⟩ = some (.slice bp n bc) ∧ W.heap.size < w.heap.size ∧ Below W.heap.size W w) ∧ Hold F w) → Calls Try.prog 14 #[.agg #[.string nm, .slice pp pn pc, .int .i64 rt, .slice bp n bc]] w fun e w' => ∃ R, e = .returned (.slice (some ⟨R, 0, none⟩) n n) ∧ w'.cell? ⟨W.heap.size, 0, none⟩ = some (.string nm) ∧ w'.cell? ⟨W.heap.size, 1, none⟩ = some (.slice pp pn pc) ∧ w'.cell? ⟨W.heap.size, 2, none⟩ = some (.int .i64 rt) ∧ w'.cell? ⟨W.heap.size, 3, none⟩ = some (.slice bp n bc) ∧ W.heap.size < w'.heap.size ∧ Below W.heap.size W w' ∧ Hold (ReachQ R n L :: F) w' := by
    rintro F w ⟨k, kh⟩
    refine (HC.out.2.2.1 w k.2.2.2.2.2).mono ?_
    rintro e w' ⟨R, he, hp, hR, hl⟩
    obtain ⟨q0, q1, q2, q3, q4, q5⟩ := HS w w' k hp.2
    exact ⟨R, he, q0, q1, q2, q3, q4, q5, kh.cons hp.2 (ReachQ.all hl)⟩
  have kl : W.heap.size < w2.heap.size := H2.out.2.1
  have HT := Lib.hid HS
  clear HS
  go_cut [4, 5] (fun s4 s5 wx => TwoPR W [.string nm, .slice pp pn pc, .int .i64 rt, .slice bp n bc] n (fun t => ints (predUpto S n t)) L s4 s5 wx)
  case first =>
    have hW2 := Lib.hid H2.out.2
    go_region_held3 (fun w' => w'.cell? ⟨W.heap.size, 0, none⟩ = some (.string nm) ∧ w'.cell? ⟨W.heap.size, 1, none⟩ = some (.slice pp pn pc) ∧ w'.cell? ⟨W.heap.size, 2, none⟩ = some (.int .i64 rt) ∧ w'.cell? ⟨W.heap.size, 3, none⟩ = some (.slice bp n bc) ∧ W.heap.size < w'.heap.size ∧ Below W.heap.size W w')
      (((try dsimp only); (repeat' apply And.intro) <;> (first | (with_reducible assumption) | (rw [World.cell?_drew]; with_reducible assumption) | (with_reducible apply below_drew; with_reducible assumption) | (simp <;> omega))))
      (first
        | ((with_reducible refine' (cP _ _ ?pre).mono ?_)
           case pre => (refine ⟨⟨?_, ?_, ?_, ?_, ?_, ?_⟩, ?_⟩ <;> (first | (with_reducible assumption) | (rw [World.cell?_drew]; with_reducible assumption) | (with_reducible apply below_drew; with_reducible assumption) | (with_reducible apply Hold.drew; with_reducible assumption) | (simp <;> omega) | omega))
           rintro e wp ⟨R1, vs1, rfl, p0, p1, p2, p3, p4, p5, ph⟩)
        | ((with_reducible refine' (cR _ _ ?pre).mono ?_)
           case pre => (refine ⟨⟨?_, ?_, ?_, ?_, ?_, ?_⟩, ?_⟩ <;> (first | (with_reducible assumption) | (rw [World.cell?_drew]; with_reducible assumption) | (with_reducible apply below_drew; with_reducible assumption) | (with_reducible apply Hold.drew; with_reducible assumption) | (simp <;> omega) | omega))
           rintro e wr ⟨R2, rfl, r0, r1, r2, r3, r4, r5, rh⟩))
    all_goals
      go_wp2_with fail
      go_meet
      have hq := rh.get (fun u => Past W.heap.size W u ∧ Box W.heap.size [.string nm, .slice pp pn pc, .int .i64 rt, .slice bp n bc] u) (.tail _ (.tail _ (.head _)))
      exact ⟨R1, vs1, R2, rfl, rfl, hq.1, hq.2, rh.get (PredQ R1 n vs1 _) (.tail _ (.head _)), rh.get (ReachQ R2 n L) (.head _)⟩
  case rest =>
    obtain ⟨R1, vs, R2, rfl, rfl, hp, hbox, hll, hr⟩ := hcut
    have htot : rsum (fun x => (S x).length) n ≤ 1099511627776 := by
      have h1 := rsum_le (fun x => (S x).length) 1048576 (fun t => Nat.le_trans (nodup_lt n _ (HO.out.2 t).1 (HO.out.2 t).2) hbs) n
      have h2 : n * 1048576 ≤ 1048576 * 1048576 := Nat.mul_le_mul_right _ hbs
      omega
    have hpe := pairs_eq HO.out.2 n
    have kA := hbox.get 3 _ rfl
    have HK := Lib.hid (And.intro hp (And.intro hbox (And.intro hll hr)))
    obtain ⟨tot, etot⟩ : ∃ tot, rsum (fun x => (S x).length) n = tot := ⟨_, rfl⟩
    rw [etot] at htot hpe
    have HE := Lib.hid (And.intro etot hpe)
    clear hp hbox hll hr etot hpe cP cR kh k0 k1 k2 k3 kb kl HT
    go_wp2_with fail
    clear kA
    go_loopw [6, 40] (fun q t wr => ∃ (b P : Nat), b ≤ n ∧ t = .int .i64 b ∧ q = .int .i64 P ∧ Hid (P = rsum (fun x => (S x).length) b) ∧ Below wc.heap.size wc wr) (fun _ t _ => n - (intOf t).toNat)
    case atStart => exact ⟨0, 0, Nat.zero_le _, rfl, rfl, Lib.hid rfl, Below.refl _ _⟩
    case round =>
      obtain ⟨b, P, hbn, rfl, rfl, hPe, hbw⟩ := hrel
      generalize wr = wo at *
      by_cases hlt : b < n
      · have hbox := HK.out.2.1.later hbw
        have b0 := hbox.get 0 _ rfl
        have b1 := hbox.get 1 _ rfl
        have b2 := hbox.get 2 _ rfl
        have b3 := hbox.get 3 _ rfl
        have c1 := HC.out.2.2.2 b wo (HK.out.1.trans ⟨HK.out.1.size, hbw.mono HK.out.1.size⟩).2
        have hPl : P + (S b).length ≤ tot := by
          have h1 := rsum_mono (fun x => (S x).length) (show b + 1 ≤ n by omega)
          rw [HE.out.1] at h1
          have h2 := hPe.out
          have h3 : rsum (fun x => (S x).length) (b + 1) = rsum (fun x => (S x).length) b + (S b).length := rfl
          omega
        have HW := Lib.hid hbw
        clear hbox hbw
        obtain ⟨T, eT⟩ : ∃ T, S b = T := ⟨_, rfl⟩
        rw [eT] at c1 hPl
        have hTn : T.Nodup ∧ ∀ x ∈ T, x < n := by rw [← eT]; exact HO.out.2 b
        have hTl := nodup_lt n T hTn.1 hTn.2
        have HTT := Lib.hid (And.intro eT hTn)
        clear eT hTn
        go_wp2_with fail
        refine c1.mono ?_
        rintro e w5 ⟨p, c, rfl, hp5, ho5⟩
        have hi5 := ints_in ho5 (Nat.le_refl _)
        have HI5 := Lib.hid (And.intro hi5 hp5)
        clear c1 b0 b1 b2 b3 hi5 hp5 ho5
        go_wp2_with fail
        go_loopw [6, 47] (fun q t wr => ∃ i : Nat, i ≤ T.length ∧ t = .int .i64 i ∧ q = .int .i64 ((P + i : Nat) : Int) ∧ wr = w5) (fun _ t _ => T.length - (intOf t).toNat)
        case atStart => exact ⟨0, Nat.zero_le _, rfl, rfl, rfl⟩
        case round =>
          obtain ⟨i, hile, rfl, rfl, rfl⟩ := hrel
          by_cases hlt2 : i < T.length
          · obtain ⟨a, rfl, ha, hc⟩ := int_row HI5.out.1 i (by rw [ints_len]; exact hlt2)
            rw [ints_get T i hlt2] at hc
            have hx : T[i] < n := HTT.out.2.2 _ (List.getElem_mem hlt2)
            have hxm : T[i] ∈ S b := by rw [HTT.out.1]; exact List.getElem_mem hlt2
            obtain ⟨x, ex⟩ : ∃ x, T[i] = x := ⟨_, rfl⟩
            rw [ex] at hc hx hxm
            clear ex
            have hb5 := HW.out.trans (HI5.out.2.2.mono HW.out.size)
            have rb := (rowIs_kept HK.out.2.2.2 (below_grown hb5) (by simp)).cell hlt
            have rx := (rowIs_kept HK.out.2.2.2 (below_grown hb5) (by simp)).cell hx
            have hdone : b ∈ L → x ∈ L := fun h => HO.out.1.done b h x hxm
            have hl5 := HK.out.2.2.1.later hb5
            have rp := hl5.row.cell hx
            obtain ⟨q, cc, hq⟩ := hl5.slice hx
            have hown := hl5.own x hx
            rw [hq] at rp hown
            have hbm : b ∈ predUpto S n x := (mem_predUpto S n x b).2 ⟨hlt, hxm⟩
            obtain ⟨M, eM⟩ : ∃ M, predUpto S n x = M := ⟨_, rfl⟩
            simp only [eM, ints_len] at rp hown hbm
            rw [← ints_len M] at hown
            have hMl : M.length ≤ n := by rw [← eM]; exact predUpto_le S n x
            have HM := Lib.hid (And.intro hown hbm)
            clear hb5 hl5 hq hown hbm eM hxm
            have hnx : decide (n ≤ x) = false := by simp; omega
            by_cases hbL : b ∈ L
            · replace rb : wr.cell? ⟨R2, b, none⟩ = some (.bool true) := rb.trans (by simp [hbL])
              replace rx : wr.cell? ⟨R2, x, none⟩ = some (.bool true) := rx.trans (by simp [hdone hbL])
              clear hbL hdone
              go_wp2_with fail
              go_loopw [10, 76] (fun q t wr2 => ∃ (j : Nat) (fd : Bool), j ≤ M.length ∧ t = .int .i64 j ∧ q = .bool fd ∧ Hid (fd = decide (b ∈ M.take j)) ∧ wr2 = wr) (fun _ t _ => M.length - (intOf t).toNat)
              case atStart => exact ⟨0, false, Nat.zero_le _, rfl, rfl, Lib.hid (by simp), rfl⟩
              case round =>
                obtain ⟨j, fd, hjle, rfl, rfl, hfd, rfl⟩ := hrel
                by_cases hlt3 : j < M.length
                · obtain ⟨ap, rfl, hap, hcj⟩ := own_int HM.out.1 hlt3
                  have hms := mem_take_succ M j b hlt3
                  obtain ⟨y, ey⟩ : ∃ y, M[j] = y := ⟨_, rfl⟩
                  rw [ey] at hcj hms
                  have HMS := Lib.hid hms
                  clear ey hms
                  have hcond : (((y : Nat) : Int) == ((b : Nat) : Int)) = decide (y = b) := by
                    by_cases e : y = b
                    · subst e; simp
                    · simp [e]; omega
                  cases fd
                  · have hyb : Hid (decide (y = b) = decide (b ∈ M.take (j + 1))) := Lib.hid (by
                      have h1 := hfd.out
                      have h2 := HMS.out
                      have h3 : ¬ b ∈ M.take j := by simpa using h1
                      by_cases e : y = b
                      · subst e; simp [h2]
                      · have e' : ¬ b = y := fun h => e h.symm
                        simp [h2, h3, e, e'])
                    by_cases e : y = b
                    · have hc2 : (((y : Nat) : Int) == ((b : Nat) : Int)) = true := by rw [hcond]; simp [e]
                      have HB2 : Hid (true = decide (b ∈ M.take (j + 1))) := Lib.hid (by rw [← hyb.out]; simp [e])
                      clear hcond hyb e
                      go_wp2_with fail
                      exact ⟨⟨j + 1, true, by omega, by go_num, rfl, HB2, by trivial⟩, by simp [intOf]; omega⟩
                    · have hc2 : (((y : Nat) : Int) == ((b : Nat) : Int)) = false := by rw [hcond]; simp [e]
                      have HB2 : Hid (false = decide (b ∈ M.take (j + 1))) := Lib.hid (by rw [← hyb.out]; simp [e])
                      clear hcond hyb e
                      go_wp2_with fail
                      exact ⟨⟨j + 1, false, by omega, by go_num, rfl, HB2, by trivial⟩, by simp [intOf]; omega⟩
                  · have HB2 : Hid (true = decide (b ∈ M.take (j + 1))) := Lib.hid (by
                      have h1 := hfd.out
                      have h2 := HMS.out
                      have h3 : b ∈ M.take j := by simpa using h1
                      simp [h2, h3])
                    clear hcond
                    go_wp2_with fail
                    exact ⟨⟨j + 1, true, by omega, by go_num, rfl, HB2, by trivial⟩, by simp [intOf]; omega⟩
                · obtain rfl : j = M.length := by omega
                  obtain rfl : fd = true := by rw [hfd.out, List.take_length]; simp [HM.out.2]
                  go_wp2_with fail
                  exact ⟨⟨i + 1, by omega, by go_num, by go_num, by trivial⟩, by simp [intOf]; omega⟩
            · replace rb : wr.cell? ⟨R2, b, none⟩ = some (.bool false) := rb.trans (by simp [hbL])
              clear hbL hdone rx
              go_wp2_with fail
              go_loopw [10, 76] (fun q t wr2 => ∃ (j : Nat) (fd : Bool), j ≤ M.length ∧ t = .int .i64 j ∧ q = .bool fd ∧ Hid (fd = decide (b ∈ M.take j)) ∧ wr2 = wr) (fun _ t _ => M.length - (intOf t).toNat)
              case atStart => exact ⟨0, false, Nat.zero_le _, rfl, rfl, Lib.hid (by simp), rfl⟩
              case round =>
                obtain ⟨j, fd, hjle, rfl, rfl, hfd, rfl⟩ := hrel
                by_cases hlt3 : j < M.length
                · obtain ⟨ap, rfl, hap, hcj⟩ := own_int HM.out.1 hlt3
                  have hms := mem_take_succ M j b hlt3
                  obtain ⟨y, ey⟩ : ∃ y, M[j] = y := ⟨_, rfl⟩
                  rw [ey] at hcj hms
                  have HMS := Lib.hid hms
                  clear ey hms
                  have hcond : (((y : Nat) : Int) == ((b : Nat) : Int)) = decide (y = b) := by
                    by_cases e : y = b
                    · subst e; simp
                    · simp [e]; omega
                  cases fd
                  · have hyb : Hid (decide (y = b) = decide (b ∈ M.take (j + 1))) := Lib.hid (by
                      have h1 := hfd.out
                      have h2 := HMS.out
                      have h3 : ¬ b ∈ M.take j := by simpa using h1
                      by_cases e : y = b
                      · subst e; simp [h2]
                      · have e' : ¬ b = y := fun h => e h.symm
                        simp [h2, h3, e, e'])
                    by_cases e : y = b
                    · have hc2 : (((y : Nat) : Int) == ((b : Nat) : Int)) = true := by rw [hcond]; simp [e]
                      have HB2 : Hid (true = decide (b ∈ M.take (j + 1))) := Lib.hid (by rw [← hyb.out]; simp [e])
                      clear hcond hyb e
                      go_wp2_with fail
                      exact ⟨⟨j + 1, true, by omega, by go_num, rfl, HB2, by trivial⟩, by simp [intOf]; omega⟩
                    · have hc2 : (((y : Nat) : Int) == ((b : Nat) : Int)) = false := by rw [hcond]; simp [e]
                      have HB2 : Hid (false = decide (b ∈ M.take (j + 1))) := Lib.hid (by rw [← hyb.out]; simp [e])
                      clear hcond hyb e
                      go_wp2_with fail
                      exact ⟨⟨j + 1, false, by omega, by go_num, rfl, HB2, by trivial⟩, by simp [intOf]; omega⟩
                  · have HB2 : Hid (true = decide (b ∈ M.take (j + 1))) := Lib.hid (by
                      have h1 := hfd.out
                      have h2 := HMS.out
                      have h3 : b ∈ M.take j := by simpa using h1
                      simp [h2, h3])
                    clear hcond
                    go_wp2_with fail
                    exact ⟨⟨j + 1, true, by omega, by go_num, rfl, HB2, by trivial⟩, by simp [intOf]; omega⟩
                · obtain rfl : j = M.length := by omega
                  obtain rfl : fd = true := by rw [hfd.out, List.take_length]; simp [HM.out.2]
                  go_wp2_with fail
                  exact ⟨⟨i + 1, by omega, by go_num, by go_num, by trivial⟩, by simp [intOf]; omega⟩
          · obtain rfl : i = T.length := by omega
            have HB5 := Lib.hid (HW.out.trans (HI5.out.2.2.mono HW.out.size))
            have hPn : Hid (P + T.length = rsum (fun x => (S x).length) (b + 1)) := Lib.hid (by
              have h1 := hPe.out
              have h2 := HTT.out.1
              have h3 : rsum (fun x => (S x).length) (b + 1) = rsum (fun x => (S x).length) b + (S b).length := rfl
              rw [h3, h2, ← h1])
            go_wp2_with fail
            exact ⟨⟨b + 1, P + T.length, by omega, by go_num, by go_num, hPn, HB5.out⟩, by simp [intOf]; omega⟩
      · obtain rfl : b = n := by omega
        have hPt : P = tot := by rw [hPe.out]; exact HE.out.1
        subst hPt
        have HLL := Lib.hid (HK.out.2.2.1.later hbw)
        have HPA := Lib.hid (HK.out.1.trans ⟨HK.out.1.size, hbw.mono HK.out.1.size⟩)
        clear hbw hPe HK
        go_wp2_with fail
        go_loopw [6, 95] (fun q t wr => ∃ (k P2 : Nat), k ≤ b ∧ t = .int .i64 k ∧ q = .int .i64 P2 ∧ P2 + rsum (fun t => (predUpto S b t).length) k = P ∧ Below wo.heap.size wo wr) (fun _ t _ => b - (intOf t).toNat)
        case atStart => exact ⟨0, P, Nat.zero_le _, rfl, rfl, rfl, Below.refl _ _⟩
        case round =>
          obtain ⟨k, P2, hkb, rfl, rfl, hPk, hbk⟩ := hrel
          generalize wr = wk at *
          have hl := HLL.out.later hbk
          have HBK := Lib.hid hbk
          clear hbk
          have hPb := HE.out.2
          by_cases hk : k < b
          · have rp := hl.row.cell hk
            obtain ⟨q, cc, hq⟩ := hl.slice hk
            have hown := hl.own k hk
            rw [hq] at rp hown
            have hmono := rsum_mono (fun t => (predUpto S b t).length) (show k + 1 ≤ b by omega)
            rw [hPb] at hmono
            have hsk : rsum (fun t => (predUpto S b t).length) (k + 1) = rsum (fun t => (predUpto S b t).length) k + (predUpto S b k).length := rfl
            rw [hsk] at hmono
            have hri := predUpto_rises S b k
            have HSK := Lib.hid hsk
            have hMl : (predUpto S b k).length ≤ b := predUpto_le S b k
            obtain ⟨M, eM⟩ : ∃ M, predUpto S b k = M := ⟨_, rfl⟩
            simp only [eM, ints_len] at rp hown hmono hri HSK hMl
            rw [← ints_len M] at hown
            have HM := Lib.hid (And.intro hown hri)
            obtain ⟨rk, erk⟩ : ∃ rk, rsum (fun t => (predUpto S b t).length) k = rk := ⟨_, rfl⟩
            simp only [erk] at hPk hmono HSK
            clear hq hown hri hsk erk eM hPb hl
            go_wp2_with fail
            go_loopw [6, 101] (fun q t wr2 => ∃ (i P3 : Nat), i ≤ M.length ∧ t = .int .i64 i ∧ q = .int .i64 P3 ∧ P3 + rk + i = P ∧ Below wk.heap.size wk wr2) (fun _ t _ => M.length - (intOf t).toNat)
            case atStart => exact ⟨0, P2, Nat.zero_le _, rfl, rfl, hPk, Below.refl _ _⟩
            case round =>
              obtain ⟨i, P3, hile, rfl, rfl, hPi, hbi⟩ := hrel
              have HOW := Lib.hid (ownsRow_below HM.out.1 hbi)
              have HBI := Lib.hid hbi
              clear hbi
              by_cases hi : i < M.length
              · obtain ⟨ap, rfl, hap, hci⟩ := own_int HOW.out hi
                have hP31 : 1 ≤ P3 := by omega
                have hP32 : P3 ≤ 1099511627776 := by omega
                have hcP : ((P3 : Nat) : Int) - 1 = ((P3 - 1 : Nat) : Int) := by omega
                have HPI := Lib.hid hPi
                have HPK := Lib.hid hPk
                cases i with
                | zero =>
                  clear hPi hPk hmono
                  go_wp2_with fail
                  go_quiet (fail)
                  all_goals
                    go_wp2_with fail
                    exact ⟨⟨1, P3 - 1, by omega, by go_num, by go_num, by have := HPI.out; omega, HBI.out.trans (below_drewN _ _ _)⟩, by simp [intOf]; omega⟩
                | succ i =>
                  obtain ⟨ap2, e2, hap2, hcj⟩ := own_int HOW.out (j := i) (by omega)
                  injection e2 with e2
                  subst e2
                  have hlt3 := List.pairwise_iff_getElem.1 HM.out.2 i (i + 1) (by omega) hi (Nat.lt_succ_self i)
                  obtain ⟨y, ey⟩ : ∃ y, M[i] = y := ⟨_, rfl⟩
                  obtain ⟨z, ez⟩ : ∃ z, M[i + 1] = z := ⟨_, rfl⟩
                  rw [ey, ez] at hlt3
                  rw [ey] at hcj
                  rw [ez] at hci
                  have hd : decide (z ≤ y) = false := by simp; omega
                  have hi0 : decide (0 < i + 1) = true := by simp
                  have hi0' : decide ((0 : Int) < ((i + 1 : Nat) : Int)) = true := by simp
                  have hcast : (((i + 1 : Nat) : Int)) - 1 = (i : Int) := by omega
                  have hw1 : IntKind.i64.wrap ((i : Int) + 1 - 1) = i := by rw [show (i : Int) + 1 - 1 = i by omega]; exact IntWalk.i64_in _ (by omega)
                  have hw2 : IntKind.i64.wrap (i : Int) = i := IntWalk.i64_in _ (by omega)
                  have hi5 : i < M.length := by omega
                  have hci2 : wr.cell? ⟨ap.block, ap.off + (i + 1), none⟩ = some (.int .i64 (z : Int)) := by rw [add_pos ap (i + 1) (by omega)] at hci; exact hci
                  have hq0 : (0 : Int) ≤ (i : Int) + 1 := by omega
                  have hq1 : (i : Int) + 1 < (M.length : Int) := by omega
                  have hq2 : ((i : Int) + 1).toNat = i + 1 := by omega
                  clear hPi hPk hmono ey ez hlt3
                  go_wp2_with fail
                  go_quiet (fail)
                  all_goals (clear hw1 hw2 hq2)
                  all_goals
                    go_wp2_with fail
                    exact ⟨⟨i + 1 + 1, P3 - 1, by omega, by go_num, by go_num, by have := HPI.out; omega, HBI.out.trans (below_drewN _ _ _)⟩, by simp [intOf]; omega⟩
              · obtain rfl : i = M.length := by omega
                have HPI := Lib.hid hPi
                have HPK := Lib.hid hPk
                clear hPi hPk hmono
                go_wp2_with fail
                exact ⟨⟨k + 1, P3, by omega, by go_num, rfl, by rw [HSK.out]; have := HPI.out; omega, HBK.out.trans (HBI.out.mono HBK.out.size)⟩, by simp [intOf]; omega⟩
          · obtain rfl : k = b := by omega
            rw [hPb] at hPk
            obtain rfl : P2 = 0 := by omega
            clear hPk hPb hl
            go_wp2_with fail
            go_ret
            exact ⟨rfl, HPA.out.2.trans (HBK.out.mono HPA.out.size)⟩
end Go.Proofs.Ytejnhdhfmklajaa
