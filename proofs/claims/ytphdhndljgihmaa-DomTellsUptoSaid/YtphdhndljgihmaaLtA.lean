/- Lengauer's and Tarjan's way as mathematics: a walk's numbers, the least from which a way comes through greater ones, nearest dominators. No program here. -/
import Derived.Test.YtphdhndljgihmaaDList
namespace Go.Proofs.Ytphdhndljgihmaa
set_option linter.unusedVariables false
set_option linter.unusedSimpArgs false

/-- Numbers of a walk, depth first: successors T, parents pa. -/
structure Dfs (sz : Nat) (T : Nat → List Nat) (pa : Nat → Nat) : Prop where
  lt : ∀ x, ∀ y ∈ T x, x < sz ∧ y < sz
  par : ∀ n, n ≠ 0 → n < sz → pa n < n ∧ n ∈ T (pa n)
  fwd : ∀ p n, n ∈ T p → p < n → Anc pa p n
  mid : ∀ v z y, y < sz → Anc pa v y → v ≤ z → z ≤ y → Anc pa v z
/-- A way from v to x goes, between the two, through numbers above k alone. -/
inductive Hi (T : Nat → List Nat) (k v : Nat) : Nat → Prop
  | edge (x) : x ∈ T v → Hi T k v x
  | snoc (y x) : Hi T k v y → k < y → x ∈ T y → Hi T k v x
section
variable {sz : Nat} {T : Nat → List Nat} {pa : Nat → Nat}
theorem Dfs.le (D : Dfs sz T pa) {a b : Nat} (h : Anc pa a b) : b < sz → a ≤ b := by
  induction h with
  | refl => exact fun _ => Nat.le_refl _
  | up b h0 _ ih =>
    intro hb
    have := (D.par b h0 hb).1
    have := ih (by omega)
    omega
theorem Dfs.chain (D : Dfs sz T pa) {a b c : Nat} (hc : c < sz) (h : Anc pa a c) (k : Anc pa b c) (hab : a ≤ b) : Anc pa a b := D.mid a b c hc h hab (D.le k hc)
theorem Dfs.zero (D : Dfs sz T pa) : ∀ n, n < sz → Anc pa 0 n := by
  intro n
  induction n using Nat.strongRecOn with
  | _ n ih =>
    intro hn
    by_cases h0 : n = 0
    · subst h0; exact Anc.refl
    · have := (D.par n h0 hn).1
      exact Anc.up n h0 (ih _ this (by omega))
theorem Dfs.child (D : Dfs sz T pa) {a b : Nat} (h : Anc pa a b) : b < sz → a ≠ b → ∃ c, c ≠ 0 ∧ pa c = a ∧ Anc pa c b := by
  induction h with
  | refl => exact fun _ h => absurd rfl h
  | up b h0 h1 ih =>
    intro hb _
    by_cases e : a = pa b
    · exact ⟨b, h0, e.symm, Anc.refl⟩
    · have := (D.par b h0 hb).1
      obtain ⟨c, c0, c1, c2⟩ := ih (by omega) e
      exact ⟨c, c0, c1, Anc.up b h0 c2⟩
theorem Dfs.rch (D : Dfs sz T pa) {g : Nat} : ∀ n, n < sz → n < g → Rch (cut T g) n := by
  intro n
  induction n using Nat.strongRecOn with
  | _ n ih =>
    intro hn hg
    by_cases h0 : n = 0
    · subst h0; exact Rch.zero
    · obtain ⟨h1, h2⟩ := D.par n h0 hn
      exact Rch.step _ _ (ih _ h1 (by omega) (by omega)) (mem_cut.2 ⟨h2, by omega⟩)
theorem Dfs.rch_all (D : Dfs sz T pa) {n : Nat} (hn : n < sz) : Rch T n := by
  have h := D.rch (g := n + 1) n hn (Nat.lt_succ_self _)
  exact Miss.rch (g := n + 1) ⟨by omega, h⟩
/-- Down the tree from a number below which nothing is cut. -/
theorem Dfs.down (D : Dfs sz T pa) {g u p : Nat} (hu : Miss T g u) (hg : g < u) (h : Anc pa u p) : p < sz → Miss T g p := by
  induction h with
  | refl => exact fun _ => hu
  | up p h0 h1 ih =>
    intro hp
    obtain ⟨k1, k2⟩ := D.par p h0 hp
    have h2 := D.le h1 (by omega)
    exact (ih (by omega)).step k2 (by omega)
theorem Hi.lt (D : Dfs sz T pa) {k v x : Nat} (h : Hi T k v x) : v < sz ∧ x < sz := by
  induction h with
  | edge x hx => exact D.lt v x hx
  | snoc y x _ _ hx ih => exact ⟨ih.1, (D.lt y x hx).2⟩
theorem Hi.mono {k k' v x : Nat} (h : Hi T k v x) (hk : k' ≤ k) : Hi T k' v x := by
  induction h with
  | edge x hx => exact Hi.edge x hx
  | snoc y x _ hy hx ih => exact Hi.snoc y x ih (by omega) hx
theorem Hi.down (D : Dfs sz T pa) {k v u p : Nat} (h : Hi T k v u) (hk : k < u) (a : Anc pa u p) : p < sz → Hi T k v p := by
  induction a with
  | refl => exact fun _ => h
  | up p h0 h1 ih =>
    intro hp
    obtain ⟨k1, k2⟩ := D.par p h0 hp
    have h2 := D.le h1 (by omega)
    exact Hi.snoc _ _ (ih (by omega)) (by omega) k2
theorem Hi.anc (D : Dfs sz T pa) {k v x : Nat} (h : Hi T k v x) (hv : v ≤ k) : v < x → Anc pa v x := by
  induction h with
  | edge x hx => exact fun hl => D.fwd v x hx hl
  | snoc y x hy hk hx ih =>
    intro hl
    have h1 := ih (by omega)
    have hys := (D.lt y x hx).1
    rcases Nat.lt_or_ge y x with e | e
    · exact h1.trans (D.fwd y x hx e)
    · exact D.mid v x y hys h1 (by omega) e
/-- Where a way through numbers above k ends, some ancestor above k is come to through greater ones than itself. -/
theorem Hi.top (D : Dfs sz T pa) {k v y : Nat} (h : Hi T k v y) : k < y → ∃ u, k < u ∧ Anc pa u y ∧ Hi T u v u := by
  induction h with
  | edge y hy => exact fun hk => ⟨y, hk, Anc.refl, Hi.edge y hy⟩
  | snoc z y hz hk hy ih =>
    intro hky
    obtain ⟨u, hu, ha, hh⟩ := ih hk
    obtain ⟨hzs, hys⟩ := D.lt z y hy
    rcases Nat.lt_or_ge z y with e | e
    · exact ⟨u, hu, ha.trans (D.fwd z y hy e), hh⟩
    · rcases Nat.lt_or_ge y u with e2 | e2
      · have huz := D.le ha hzs
        exact ⟨y, hky, Anc.refl, Hi.snoc z y ((hh.mono (Nat.le_of_lt e2)).down D e2 ha hzs) (by omega) hy⟩
      · exact ⟨u, hu, D.mid u y z hzs ha e2 e, hh⟩
/-- s is the least number from which a way comes to n through greater ones than n. -/
def Semi (T : Nat → List Nat) (n s : Nat) : Prop := Hi T n s n ∧ ∀ v, Hi T n v n → s ≤ v
theorem Semi.facts (D : Dfs sz T pa) {n s : Nat} (h0 : n ≠ 0) (hn : n < sz) (h : Semi T n s) : s ≤ pa n ∧ s < n ∧ Anc pa s n := by
  obtain ⟨k1, k2⟩ := D.par n h0 hn
  have h1 := h.2 _ (Hi.edge n k2)
  exact ⟨h1, by omega, h.1.anc D (by omega) (by omega)⟩
/-- What is known of n's number while its predecessors are gone through. -/
structure Cur (T : Nat → List Nat) (pa sm : Nat → Nat) (n : Nat) (ps : List Nat) (c : Nat) : Prop where
  le : c ≤ n
  way : c = n ∨ Hi T n c n
  low1 : ∀ p ∈ ps, p < n → c ≤ p
  low2 : ∀ p ∈ ps, n < p → ∀ u, n < u → Anc pa u p → c ≤ sm u
theorem Cur.start (T : Nat → List Nat) (pa sm : Nat → Nat) (n : Nat) : Cur T pa sm n [] n :=
  ⟨Nat.le_refl _, .inl rfl, fun p hp => by simp at hp, fun p hp => by simp at hp⟩
/-- What looking a number up tells, where the numbers from k on are linked. -/
structure Look (pa sm : Nat → Nat) (k p b : Nat) : Prop where
  old : p < k → b = p
  low : k ≤ p → k ≤ b
  anc : k ≤ p → Anc pa b p
  min : k ≤ p → ∀ u, k ≤ u → Anc pa u p → sm b ≤ sm u
theorem Cur.step (D : Dfs sz T pa) {sm : Nat → Nat} {n p b c v : Nat} {ps : List Nat} (h : Cur T pa sm n ps c) (hs : ∀ u, n < u → u < sz → Semi T u (sm u)) (hp : n ∈ T p) (hb : Look pa sm (n + 1) p b)
    (hv : v = if b < n then b else if b = n then c else sm b) : Cur T pa sm n (ps ++ [p]) (min c v) := by
  have hpn := D.lt p n hp
  rcases Nat.lt_trichotomy p n with e | e | e
  · have hb1 := hb.old (by omega)
    subst hb1
    rw [if_pos e] at hv
    subst hv
    refine ⟨by have := h.le; omega, ?_, fun q hq hl => ?_, fun q hq hl u hu ha => ?_⟩
    · rcases Nat.le_total c v with e2 | e2
      · rw [Nat.min_eq_left e2]; exact h.way
      · rw [Nat.min_eq_right e2]; exact .inr (Hi.edge n hp)
    · rcases List.mem_append.1 hq with hq | hq
      · have := h.low1 q hq hl; omega
      · obtain rfl := List.mem_singleton.1 hq; omega
    · rcases List.mem_append.1 hq with hq | hq
      · have := h.low2 q hq hl u hu ha; omega
      · obtain rfl := List.mem_singleton.1 hq; omega
  · subst e
    have hb1 := hb.old (by omega)
    subst hb1
    rw [if_neg (Nat.lt_irrefl _), if_pos rfl] at hv
    subst hv
    rw [Nat.min_self]
    refine ⟨h.le, h.way, fun q hq hl => ?_, fun q hq hl u hu ha => ?_⟩
    · rcases List.mem_append.1 hq with hq | hq
      · exact h.low1 q hq hl
      · obtain rfl := List.mem_singleton.1 hq; omega
    · rcases List.mem_append.1 hq with hq | hq
      · exact h.low2 q hq hl u hu ha
      · obtain rfl := List.mem_singleton.1 hq; omega
  · have hb1 := hb.low (by omega)
    have hb2 := hb.anc (by omega)
    have hb3 := hb.min (by omega)
    have hbp := D.le hb2 hpn.1
    rw [if_neg (by omega), if_neg (by omega)] at hv
    subst hv
    have hsb := hs b (by omega) (by omega)
    refine ⟨by have := h.le; omega, ?_, fun q hq hl => ?_, fun q hq hl u hu ha => ?_⟩
    · rcases Nat.le_total c (sm b) with e2 | e2
      · rw [Nat.min_eq_left e2]; exact h.way
      · rw [Nat.min_eq_right e2]
        exact .inr (Hi.snoc p n ((hsb.1.mono (by omega)).down D (by omega) hb2 hpn.1) e hp)
    · rcases List.mem_append.1 hq with hq | hq
      · have := h.low1 q hq hl; omega
      · obtain rfl := List.mem_singleton.1 hq; omega
    · rcases List.mem_append.1 hq with hq | hq
      · have := h.low2 q hq hl u hu ha; omega
      · obtain rfl := List.mem_singleton.1 hq
        have := hb3 u (by omega) ha; omega
theorem Cur.ends (D : Dfs sz T pa) {sm : Nat → Nat} {n c : Nat} {ps : List Nat} (h : Cur T pa sm n ps c) (h0 : n ≠ 0) (hn : n < sz) (hs : ∀ u, n < u → u < sz → Semi T u (sm u)) (hps : ∀ p, n ∈ T p → p ∈ ps) : Semi T n c := by
  obtain ⟨k1, k2⟩ := D.par n h0 hn
  have h1 := h.low1 _ (hps _ k2) k1
  refine ⟨h.way.resolve_left (by omega), fun v hv => ?_⟩
  cases hv with
  | edge _ hx =>
    rcases Nat.lt_or_ge v n with e | e
    · exact h.low1 v (hps v hx) e
    · have := h.le; omega
  | snoc p _ hy hk hx =>
    obtain ⟨u, hu, ha, hh⟩ := hy.top D hk
    have hpn := D.lt p n hx
    have hup := D.le ha hpn.1
    have := h.low2 p (hps p hx) hk u hu ha
    have := (hs u hu (by omega)).2 v hh
    omega

/-- A way from 0 that misses s and comes to y beyond it leaves what is below s for the last time somewhere. -/
theorem beyond (D : Dfs sz T pa) {s y : Nat} (h : Rch (cut T s) y) : s ≠ 0 → y < s ∨ (s < y ∧ ∃ x, x < s ∧ Hi T s x y) := by
  induction h with
  | zero => exact fun h => .inl (by omega)
  | step a t ha ht ih =>
    intro hs
    obtain ⟨h1, h2⟩ := mem_cut.1 ht
    rcases Nat.lt_or_ge t s with e | e
    · exact .inl e
    · refine .inr ⟨by omega, ?_⟩
      rcases ih hs with k | ⟨k, x, hx, hh⟩
      · exact ⟨a, k, Hi.edge t h1⟩
      · exact ⟨x, hx, Hi.snoc a t hh k h1⟩
theorem Hi.miss (D : Dfs sz T pa) {k g v x : Nat} (h : Hi T k v x) (hv : Miss T g v) (hg : g ≤ k) : x ≠ g → Miss T g x := by
  induction h with
  | edge x hx => exact fun hne => hv.step hx hne
  | snoc y x _ hy hx ih => exact fun hne => (ih (by omega)).step hx hne
theorem dm_anc (D : Dfs sz T pa) {c n : Nat} (hn : n < sz) (h : Dm T c n) : Anc pa c n := by
  rcases h.2.2 with e | e
  · subst e; exact Anc.refl
  apply Classical.byContradiction
  intro hno
  have c0 : c ≠ 0 := fun e => hno (e ▸ D.zero n hn)
  apply e
  have key : ∀ x, x ≤ n → Anc pa x n → Miss T c x := by
    intro x
    induction x using Nat.strongRecOn with
    | _ x ih =>
      intro hx ha
      by_cases h0 : x = 0
      · subst h0; exact Miss.zero c0
      · obtain ⟨k1, k2⟩ := D.par x h0 (by omega)
        exact (ih _ k1 (by omega) ((Anc.parent h0).trans ha)).step k2 fun e => hno (e ▸ ha)
  exact key n (Nat.le_refl _) Anc.refl
/-- A strict dominator dominates where the least way comes from. -/
theorem dm_semi (D : Dfs sz T pa) {c n s : Nat} (h0 : n ≠ 0) (hn : n < sz) (hs : Semi T n s) (h : Dm T c n) (hne : c ≠ n) : Dm T c s := by
  have hsf := hs.facts D h0 hn
  have hcn := D.le (dm_anc D hn h) hn
  by_cases e : c = s
  · subst e; exact Dm.refl h.1
  refine ⟨h.1, D.rch_all (by omega), .inr fun m => ?_⟩
  exact (h.2.2.resolve_left hne) (hs.1.miss D m hcn fun e => hne e.symm)
/-- The nearest dominator is where the least way comes from, if no ancestor between the two has a lesser one. -/
theorem near_semi (D : Dfs sz T pa) {sm : Nat → Nat} {n l : Nat} (h0 : n ≠ 0) (hn : n < sz) (hs : ∀ u, u ≠ 0 → u < sz → Semi T u (sm u)) (hm : ∀ u, sm n < u → Anc pa u n → sm l ≤ sm u) (hl : sm n ≤ sm l) : IsUp T n (sm n) := by
  have hsf := (hs n h0 hn).facts D h0 hn
  refine ⟨by omega, ⟨D.rch_all (by omega), D.rch_all hn, .inr fun m => ?_⟩, fun c hc hd => dm_semi D h0 hn (hs n h0 hn) hd hc⟩
  rcases beyond D m.2 m.1 with e | ⟨_, x, hx, hh⟩
  · omega
  · obtain ⟨u, hu, ha, hhu⟩ := hh.top D hsf.2.1
    have hun := D.le ha hn
    have := (hs u (by omega) (by omega)).2 x hhu
    have := hm u hu ha
    omega
/-- Else it is the nearest dominator of the ancestor with the least one. -/
theorem near_least (D : Dfs sz T pa) {sm : Nat → Nat} {n l d : Nat} (h0 : n ≠ 0) (hn : n < sz) (hs : ∀ u, u ≠ 0 → u < sz → Semi T u (sm u)) (hl1 : sm n < l) (hl2 : Anc pa l n) (hm : ∀ u, sm n < u → Anc pa u n → sm l ≤ sm u) (hl : sm l < sm n) (hd : IsUp T l d) : IsUp T n d := by
  have hsf := (hs n h0 hn).facts D h0 hn
  have hln := D.le hl2 hn
  have hlf := (hs l (by omega) (by omega)).facts D (by omega) (by omega)
  have hdl := dm_anc D (by omega) hd.2.1
  have hdl' := D.le hdl (by omega)
  have hds := D.le (dm_anc D (by omega) (dm_semi D (by omega) (by omega) (hs l (by omega) (by omega)) hd.2.1 hd.1)) (by omega : sm l < sz)
  have hdne := hd.1
  refine ⟨by omega, ⟨hd.2.1.1, D.rch_all hn, .inr fun m => ?_⟩, fun c hc hdc => ?_⟩
  · rcases beyond D m.2 m.1 with e | ⟨_, x, hx, hh⟩
    · omega
    · obtain ⟨y, hy, ha, hhy⟩ := hh.top D (by omega)
      have hyn := D.le ha hn
      have h1 := (hs y (by omega) (by omega)).2 x hhy
      have h2 : y ≤ sm n := by
        rcases Nat.lt_or_ge (sm n) y with e | e
        · have := hm y e ha; omega
        · exact e
      have hyl := D.chain hn ha hl2 (by omega)
      have mx : Miss T d x := ⟨m.1, D.rch x (by omega) hx⟩
      have my : Miss T d y := hhy.miss D mx (by omega) (by omega)
      exact (hd.2.1.2.2.resolve_left hd.1) (D.down my (by omega) hyl (by omega))
  · have hcs := D.le (dm_anc D (by omega) (dm_semi D h0 hn (hs n h0 hn) hdc hc)) (by omega : sm n < sz)
    refine hd.2.2 c (by omega) ⟨hdc.1, D.rch_all (by omega), .inr fun m => ?_⟩
    exact (hdc.2.2.resolve_left hc) (D.down m (by omega) hl2 hn)
end
end Go.Proofs.Ytphdhndljgihmaa
