/- Lengauer's and Tarjan's way: those that were gone through hang on their parents; looking one up shortens its way; what is waiting; settling. No program here. -/
import Derived.Test.YtphdhndljgihmaaLtB
namespace Go.Proofs.Ytphdhndljgihmaa
set_option linter.unusedVariables false
set_option linter.unusedSimpArgs false

theorem least_ex {P : Nat → Prop} : ∀ N v, v ≤ N → P v → ∃ m, P m ∧ ∀ w, P w → m ≤ w := by
  intro N
  induction N with
  | zero =>
    intro v hv h
    obtain rfl : v = 0 := by omega
    exact ⟨0, h, fun w _ => Nat.zero_le _⟩
  | succ N ih =>
    intro v hv h
    by_cases e : ∃ w, w ≤ N ∧ P w
    · obtain ⟨w, h1, h2⟩ := e
      exact ih w h1 h2
    · refine ⟨v, h, fun w hw => ?_⟩
      rcases Nat.lt_or_ge w v with k | k
      · exact absurd ⟨w, by omega, hw⟩ e
      · exact k
open Classical in
/-- Of each number the least one from which a way comes through greater ones. -/
noncomputable def sgm (T : Nat → List Nat) (n : Nat) : Nat := if h : ∃ s, Semi T n s then Classical.choose h else n
theorem Semi.unique {T : Nat → List Nat} {n s t : Nat} (h : Semi T n s) (k : Semi T n t) : s = t := Nat.le_antisymm (h.2 t k.1) (k.2 s h.1)
theorem sgm_eq {T : Nat → List Nat} {n s : Nat} (h : Semi T n s) : sgm T n = s := by
  unfold sgm
  have hx : ∃ s, Semi T n s := ⟨s, h⟩
  rw [dif_pos hx]
  exact (Classical.choose_spec hx).unique h
section
variable {sz : Nat} {T : Nat → List Nat} {pa : Nat → Nat}
theorem sgm_semi (D : Dfs sz T pa) {n : Nat} (h0 : n ≠ 0) (hn : n < sz) : Semi T n (sgm T n) := by
  obtain ⟨k1, k2⟩ := D.par n h0 hn
  obtain ⟨m, h1, h2⟩ := least_ex (P := fun v => Hi T n v n) _ _ (Nat.le_refl _) (Hi.edge n k2)
  have h : Semi T n m := ⟨h1, h2⟩
  rw [sgm_eq h]; exact h
/-- The numbers from k on hang on others (ab; -1: on none); be: which has the least sm, from it up to, but not with, what it hangs on. -/
structure For (sz : Nat) (pa sm : Nat → Nat) (k : Nat) (ab : Nat → Int) (be : Nat → Nat) : Prop where
  free : ∀ m, m < k → m < sz → ab m = -1 ∧ be m = m
  link : ∀ m, k ≤ m → m < sz → ∃ a : Nat, ab m = (a : Int) ∧ a < m ∧ Anc pa a m ∧ (∀ u, Anc pa u m → a < u → k ≤ u) ∧ Anc pa (be m) m ∧ a < be m ∧ ∀ u, Anc pa u m → a < u → sm (be m) ≤ sm u
theorem For.start (sz : Nat) (pa sm : Nat → Nat) : For sz pa sm sz (fun _ => -1) (fun m => m) :=
  ⟨fun m _ _ => ⟨rfl, rfl⟩, fun m h1 h2 => by omega⟩
variable {sm : Nat → Nat} {k : Nat} {ab : Nat → Int} {be : Nat → Nat}
theorem For.add (D : Dfs sz T pa) (h : For sz pa sm (k + 1) ab be) (hk : k ≠ 0) (hks : k < sz) : For sz pa sm k (fun m => if m = k then (pa k : Int) else ab m) be := by
  refine ⟨fun m hm hs => ?_, fun m hm hs => ?_⟩
  · have e : ¬ m = k := by omega
    simp only [if_neg e]
    exact h.free m (by omega) hs
  · by_cases e : m = k
    · subst e
      obtain ⟨k1, k2⟩ := D.par m hk hks
      have hb := (h.free m (by omega) hs).2
      have hu : ∀ u, Anc pa u m → pa m < u → u = m := fun u ha hl => Classical.byContradiction fun hne => by
        have := D.le (ha.strict hne).2 (by omega)
        omega
      refine ⟨pa m, if_pos rfl, k1, Anc.parent hk, fun u ha hl => by rw [hu u ha hl]; exact Nat.le_refl _, by rw [hb]; exact Anc.refl, by rw [hb]; exact k1, fun u ha hl => by rw [hb, hu u ha hl]; exact Nat.le_refl _⟩
    · simp only [if_neg e]
      obtain ⟨a, h1, h2, h3, h4, h5⟩ := h.link m (by omega) hs
      exact ⟨a, h1, h2, h3, fun u ha hl => by have := h4 u ha hl; omega, h5⟩
/-- What hangs on one that hangs on another may hang on that. -/
theorem For.short (D : Dfs sz T pa) (h : For sz pa sm k ab be) {m up : Nat} (hm : k ≤ m) (hs : m < sz) (hu : ab m = (up : Int)) (hk : k ≤ up) {c : Nat} (hc : c = if sm (be up) < sm (be m) then be up else be m) :
    For sz pa sm k (fun x => if x = m then ab up else ab x) (fun x => if x = m then c else be x) := by
  obtain ⟨a, h1, h2, h3, h4, h5, h6, h7⟩ := h.link m hm hs
  obtain rfl : a = up := by omega
  obtain ⟨r, g1, g2, g3, g4, g5, g6, g7⟩ := h.link a hk (by omega)
  refine ⟨fun x hx hxs => ?_, fun x hx hxs => ?_⟩
  · have e : ¬ x = m := by omega
    simp only [if_neg e]
    exact h.free x hx hxs
  · by_cases e : x = m
    · subst e
      simp only [if_pos]
      have both : ∀ u, Anc pa u x → r < u → a < u ∨ (Anc pa u a) := fun u ha hl => by
        rcases Nat.lt_or_ge a u with e | e
        · exact .inl e
        · exact .inr (D.chain hs ha h3 e)
      refine ⟨r, g1, by omega, g3.trans h3, fun u ha hl => ?_, ?_, ?_, fun u ha hl => ?_⟩
      · rcases both u ha hl with e | e
        · exact h4 u ha e
        · exact g4 u e hl
      · rw [hc]
        by_cases e : sm (be a) < sm (be x)
        · rw [if_pos e]; exact g5.trans h3
        · rw [if_neg e]; exact h5
      · rw [hc]
        by_cases e : sm (be a) < sm (be x)
        · rw [if_pos e]; exact g6
        · rw [if_neg e]; omega
      · have key : sm c ≤ sm (be a) ∧ sm c ≤ sm (be x) := by
          rw [hc]
          by_cases e : sm (be a) < sm (be x)
          · rw [if_pos e]; omega
          · rw [if_neg e]; omega
        rcases both u ha hl with e | e
        · have := h7 u ha e; omega
        · have := g7 u e hl; omega
    · simp only [if_neg e]
      exact h.link x hx hxs
/-- What is asked of a number and told of it. -/
theorem For.be_le (D : Dfs sz T pa) (h : For sz pa sm k ab be) {m : Nat} (hs : m < sz) : be m ≤ m := by
  rcases Nat.lt_or_ge m k with e | e
  · rw [(h.free m e hs).2]; exact Nat.le_refl _
  · obtain ⟨a, _, _, _, _, h5, _⟩ := h.link m e hs
    exact D.le h5 hs
theorem For.be_low (h : For sz pa sm k ab be) {m : Nat} (hs : m < sz) (hm : k ≤ m) : k ≤ be m := by
  obtain ⟨a, _, _, _, h4, h5, h6, _⟩ := h.link m hm hs
  exact h4 _ h5 h6
theorem For.ab_lt (h : For sz pa sm k ab be) {m a : Nat} (hs : m < sz) (e : ab m = (a : Int)) : a < m ∧ k ≤ m := by
  rcases Nat.lt_or_ge m k with e2 | e2
  · have := (h.free m e2 hs).1; omega
  · obtain ⟨r, h1, h2, _⟩ := h.link m e2 hs
    omega
theorem For.ab_none (h : For sz pa sm k ab be) {m : Nat} (hs : m < sz) : ab m = -1 ↔ m < k := by
  rcases Nat.lt_or_ge m k with e | e
  · exact ⟨fun _ => e, fun _ => (h.free m e hs).1⟩
  · obtain ⟨a, h1, _⟩ := h.link m e hs
    exact ⟨fun h2 => by omega, fun h2 => by omega⟩
theorem For.ab_some (h : For sz pa sm k ab be) {m : Nat} (hs : m < sz) (hm : k ≤ m) : ∃ a : Nat, ab m = (a : Int) ∧ a < m := by
  obtain ⟨a, h1, h2, _⟩ := h.link m hm hs
  exact ⟨a, h1, h2⟩
/-- What hangs right on one that hangs on none tells the least. -/
theorem For.look (h : For sz pa sm k ab be) {p : Nat} (hs : p < sz) (hr : k ≤ p → ∃ a : Nat, ab p = (a : Int) ∧ a < k) : Look pa sm k p (be p) := by
  refine ⟨fun hp => (h.free p hp hs).2, fun hp => ?_, fun hp => ?_, fun hp u hu ha => ?_⟩
  · obtain ⟨a, h1, h2, h3, h4, h5, h6, h7⟩ := h.link p hp hs
    exact h4 _ h5 h6
  · obtain ⟨a, h1, h2, h3, h4, h5, h6, h7⟩ := h.link p hp hs
    exact h5
  · obtain ⟨a, h1, h2, h3, h4, h5, h6, h7⟩ := h.link p hp hs
    obtain ⟨r, g1, g2⟩ := hr hp
    exact h7 u ha (by omega)
/-- The way up from p, so far to m: each hangs on the next, which hangs on another. -/
inductive Way (ab : Nat → Int) (k p : Nat) : List Nat → Nat → Prop
  | nil : Way ab k p [] p
  | snoc (l m a) : Way ab k p l m → ab m = ((a : Nat) : Int) → k ≤ a → Way ab k p (l ++ [m]) a
theorem Way.facts (h : For sz pa sm k ab be) {p m : Nat} {l : List Nat} (w : Way ab k p l m) (hp : p < sz) : m < sz ∧ m ≤ p ∧ l.length + m ≤ p ∧ ∀ x ∈ l, m < x ∧ x < sz ∧ k ≤ x := by
  induction w with
  | nil => exact ⟨hp, Nat.le_refl _, by simp, fun x hx => by simp at hx⟩
  | snoc l m a _ e hk ih =>
    obtain ⟨h1, h2, h3, h4⟩ := ih
    obtain ⟨h5, h6⟩ := h.ab_lt h1 e
    refine ⟨by omega, by omega, by simp; omega, fun x hx => ?_⟩
    rcases List.mem_append.1 hx with hx | hx
    · have := h4 x hx; omega
    · obtain rfl := List.mem_singleton.1 hx; omega
theorem Way.same {ab' : Nat → Int} {p m : Nat} {l : List Nat} (w : Way ab k p l m) (h : ∀ x ∈ l, ab' x = ab x) : Way ab' k p l m := by
  induction w with
  | nil => exact Way.nil
  | snoc l m a _ e hk ih => exact Way.snoc l m a (ih fun x hx => h x (List.mem_append_left _ hx)) ((h m (by simp)).trans e) hk
theorem Way.last {p a : Nat} {l : List Nat} {x : Nat} (w : Way ab k p (l ++ [x]) a) : Way ab k p l x ∧ ab x = (a : Int) ∧ k ≤ a := by
  generalize hq : l ++ [x] = q at w
  cases w with
  | nil => simp at hq
  | snoc l' m a h1 e hk =>
    obtain ⟨h2, h3⟩ := List.append_inj' hq rfl
    injection h3 with h3
    subst h2 h3
    exact ⟨h1, e, hk⟩
/-- The way back down: what is left of the way is as it was; the one that the last was hung on hangs on one that hangs on none. -/
structure Back (sz : Nat) (pa sm : Nat → Nat) (k p : Nat) (l : List Nat) (m : Nat) (ab : Nat → Int) (be : Nat → Nat) : Prop where
  frs : For sz pa sm k ab be
  way : Way ab k p l m
  top : k ≤ m → ∃ r : Nat, ab m = (r : Int) ∧ r < k
  ps : p < sz
theorem Back.step (D : Dfs sz T pa) {p x m : Nat} {l : List Nat} (h : Back sz pa sm k p (l ++ [x]) m ab be) {c : Nat} (hc : c = if sm (be m) < sm (be x) then be m else be x) :
    x < sz ∧ k ≤ x ∧ m < sz ∧ k ≤ m ∧ ab x = (m : Int) ∧ be m < sz ∧ be x < sz ∧ Back sz pa sm k p l x (fun y => if y = x then ab m else ab y) (fun y => if y = x then c else be y) := by
  obtain ⟨w, e, hk⟩ := h.way.last
  have hf := w.facts h.frs h.ps
  have hf2 := h.way.facts h.frs h.ps
  obtain ⟨h1, h2⟩ := h.frs.ab_lt hf.1 e
  obtain ⟨r, h3, h4⟩ := h.top hk
  have b1 := h.frs.be_le D hf2.1
  have b2 := h.frs.be_le D hf.1
  refine ⟨hf.1, h2, hf2.1, hk, e, by omega, by omega, h.frs.short D h2 hf.1 e hk hc, w.same fun y hy => ?_, fun _ => ⟨r, by simp only [if_pos]; exact h3, h4⟩, h.ps⟩
  have := (hf.2.2.2 y hy).1
  exact if_neg (by omega)
theorem Way.stop {p m : Nat} {l : List Nat} (w : Way ab k p l m) : l = [] → m = p := by
  cases w with
  | nil => exact fun _ => rfl
  | snoc l m a _ _ _ => exact fun e => by simp at e
theorem Back.ends {p m : Nat} (h : Back sz pa sm k p [] m ab be) : Look pa sm k p (be p) := by
  obtain rfl := h.way.stop rfl
  exact h.frs.look h.ps h.top
theorem Way.start {p : Nat} : Way ab k p [] p := Way.nil
/-- Where the way up ends. -/
theorem Way.back (h : For sz pa sm k ab be) {p m : Nat} {l : List Nat} (w : Way ab k p l m) (hp : p < sz) (he : ab m = -1 ∨ ∃ a : Nat, ab m = (a : Int) ∧ ab a = -1) : Back sz pa sm k p l m ab be := by
  have hf := w.facts h hp
  refine ⟨h, w, fun hk => ?_, hp⟩
  rcases he with e | ⟨a, e, e2⟩
  · have := (h.ab_none hf.1).1 e; omega
  · have := h.ab_lt hf.1 e
    exact ⟨a, e, (h.ab_none (by omega)).1 e2⟩
end

/-- l has the least number of all from it up to, but not with, where n's least way comes from. -/
structure LeastOk (pa sm : Nat → Nat) (n l : Nat) : Prop where
  anc : Anc pa l n
  low : sm n < l
  min : ∀ u, Anc pa u n → sm n < u → sm l ≤ sm u
/-- Numbers above n are gone through: those that wait, and those that are told. -/
structure Wait (sz : Nat) (pa sm : Nat → Nat) (n : Nat) (wt : Nat → List Nat) (ls : Nat → Nat) : Prop where
  has : ∀ s, ∀ m ∈ wt s, n < m ∧ m < sz ∧ sm m = s ∧ ∀ c, n < c → pa c = s → ¬ Anc pa c m
  all : ∀ m, n < m → m < sz → m ∈ wt (sm m) ∨ LeastOk pa sm m (ls m)
  len : ∀ s, (wt s).length ≤ sz - 1 - n
theorem Wait.start (sz : Nat) (pa sm : Nat → Nat) (ls : Nat → Nat) : Wait sz pa sm (sz - 1) (fun _ => []) ls :=
  ⟨fun s m hm => by simp at hm, fun m h1 h2 => by omega, fun s => by simp⟩
section
variable {sz : Nat} {T : Nat → List Nat} {pa sm : Nat → Nat} {n : Nat} {wt : Nat → List Nat} {ls : Nat → Nat}
/-- While those that wait for n's parent are told: i of them are. -/
structure Emp (sz : Nat) (pa sm : Nat → Nat) (n : Nat) (wt : Nat → List Nat) (ls : Nat → Nat) (q i : Nat) : Prop where
  has : ∀ s, ∀ m ∈ wt s, n ≤ m ∧ m < sz ∧ sm m = s ∧ ∀ c, n < c → pa c = s → ¬ Anc pa c m
  all : ∀ m, n ≤ m → m < sz → m ∈ wt (sm m) ∨ LeastOk pa sm m (ls m)
  done : ∀ m ∈ (wt q).take i, LeastOk pa sm m (ls m)
  len : ∀ s, (wt s).length ≤ sz - n
theorem Wait.put (D : Dfs sz T pa) (h : Wait sz pa sm n wt ls) (hn : n < sz) (q : Nat) : Emp sz pa sm n (fun s => if s = sm n then wt s ++ [n] else wt s) ls q 0 := by
  refine ⟨fun s m hm => ?_, fun m h1 h2 => ?_, fun m hm => by simp at hm, fun s => ?_⟩
  · have key : m ∈ wt s ∨ (s = sm n ∧ m = n) := by
      by_cases e : s = sm n
      · simp only [if_pos e] at hm
        rcases List.mem_append.1 hm with hm | hm
        · exact .inl hm
        · exact .inr ⟨e, List.mem_singleton.1 hm⟩
      · simp only [if_neg e] at hm; exact .inl hm
    rcases key with k | ⟨rfl, rfl⟩
    · obtain ⟨k1, k2, k3, k4⟩ := h.has s m k
      exact ⟨by omega, k2, k3, k4⟩
    · exact ⟨Nat.le_refl _, hn, rfl, fun c hc _ ha => by
        have := D.le ha hn
        omega⟩
  · by_cases e : m = n
    · subst e; simp
    · rcases h.all m (by omega) h2 with k | k
      · refine .inl ?_
        by_cases e2 : sm m = sm n
        · simp only [if_pos e2]; exact List.mem_append_left _ k
        · simp only [if_neg e2]; exact k
      · exact .inr k
  · have := h.len s
    by_cases e : s = sm n
    · simp only [if_pos e, List.length_append, List.length_singleton]; omega
    · simp only [if_neg e]; omega
theorem Emp.step (D : Dfs sz T pa) (hs : ∀ u, u ≠ 0 → u < sz → Semi T u (sm u)) (h0 : n ≠ 0) {i : Nat} (h : Emp sz pa sm n wt ls (pa n) i) (hi : i < (wt (pa n)).length) {l : Nat} (hl : Look pa sm n (wt (pa n))[i] l) :
    Emp sz pa sm n wt (fun x => if x = (wt (pa n))[i] then l else ls x) (pa n) (i + 1) := by
  obtain ⟨m, em⟩ : ∃ m, (wt (pa n))[i] = m := ⟨_, rfl⟩
  have hm : m ∈ wt (pa n) := em ▸ List.getElem_mem hi
  rw [em] at hl
  simp only [em]
  obtain ⟨h1, h2, h3, h4⟩ := h.has _ m hm
  have hpn := (D.par n h0 (by omega)).1
  have hsf := (hs m (by omega) h2).facts D (by omega) h2
  rw [h3] at hsf
  have hlow := hl.low h1
  have key : LeastOk pa sm m l := by
    refine ⟨hl.anc h1, by omega, fun u ha hu => hl.min h1 u ?_ ha⟩
    rw [h3] at hu
    have hum := D.le ha h2
    have hq := D.chain h2 hsf.2.2 ha (by omega)
    obtain ⟨c, c0, c1, c2⟩ := D.child hq (by omega) (by omega)
    have hcu := D.le c2 (by omega)
    rcases Nat.lt_or_ge n c with e | e
    · exact absurd (c2.trans ha) (h4 c e c1)
    · have hcn := D.mid c n m h2 (c2.trans ha) e h1
      by_cases e2 : c = n
      · omega
      · have h5 := D.le (hcn.strict e2).2 (by omega)
        have h6 := (D.par c c0 (by omega)).1
        omega
  refine ⟨h.has, fun x hx1 hx2 => ?_, fun x hx => ?_, h.len⟩
  · by_cases e : x = m
    · subst e; simp only [if_pos]; exact .inr key
    · simp only [if_neg e]; exact h.all x hx1 hx2
  · by_cases e : x = m
    · subst e; simp only [if_pos]; exact key
    · simp only [if_neg e]
      rw [List.take_succ_eq_append_getElem hi, List.mem_append, List.mem_singleton] at hx
      rcases hx with hx | hx
      · exact h.done x hx
      · exact absurd (hx.trans em) e
theorem Emp.ends (D : Dfs sz T pa) (h0 : n ≠ 0) (hn : n < sz) {i : Nat} (h : Emp sz pa sm n wt ls (pa n) i) (hi : (wt (pa n)).length ≤ i) : Wait sz pa sm (n - 1) (fun s => if s = pa n then [] else wt s) ls := by
  refine ⟨fun s m hm => ?_, fun m h1 h2 => ?_, fun s => ?_⟩
  · by_cases e : s = pa n
    · simp only [if_pos e] at hm; simp at hm
    · simp only [if_neg e] at hm
      obtain ⟨k1, k2, k3, k4⟩ := h.has s m hm
      refine ⟨by omega, k2, k3, fun c hc hp => ?_⟩
      by_cases e2 : c = n
      · subst e2; exact absurd hp.symm e
      · exact k4 c (by omega) hp
  · rcases h.all m (by omega) h2 with k | k
    · by_cases e : sm m = pa n
      · refine .inr (h.done m ?_)
        rw [List.take_of_length_le hi, ← e]; exact k
      · simp only [if_neg e]; exact .inl k
    · exact .inr k
  · have := h.len s
    by_cases e : s = pa n
    · simp only [if_pos e]; simp
    · simp only [if_neg e]; omega
theorem Wait.ends (D : Dfs sz T pa) (hs : ∀ u, u ≠ 0 → u < sz → Semi T u (sm u)) (h : Wait sz pa sm 0 wt ls) {m : Nat} (h0 : m ≠ 0) (hm : m < sz) : LeastOk pa sm m (ls m) := by
  refine (h.all m (by omega) hm).resolve_left fun k => ?_
  obtain ⟨k1, k2, k3, k4⟩ := h.has _ m k
  have hsf := (hs m h0 hm).facts D h0 hm
  obtain ⟨c, c0, c1, c2⟩ := D.child hsf.2.2 hm (by omega)
  exact k4 c (by omega) c1 c2
/-- Settling: below i all have their nearest. -/
theorem near_step (D : Dfs sz T pa) (hs : ∀ u, u ≠ 0 → u < sz → Semi T u (sm u)) {nr : Nat → Nat} {l c : Nat} (h0 : n ≠ 0) (hn : n < sz) (hl : LeastOk pa sm n l) (hnr : ∀ x, x ≠ 0 → x < n → IsUp T x (nr x)) (hc : c = if sm l < sm n then nr l else sm n) : l ≤ n ∧ IsUp T n c := by
  have hln := D.le hl.anc hn
  refine ⟨hln, ?_⟩
  by_cases e : sm l < sm n
  · rw [if_pos e] at hc
    subst hc
    have hne : l ≠ n := fun e2 => by subst e2; omega
    have := hl.low
    exact near_least D h0 hn hs hl.low hl.anc (fun u hu ha => hl.min u ha hu) e (hnr l (by omega) (by omega))
  · rw [if_neg e] at hc
    subst hc
    exact near_semi D h0 hn hs (fun u hu ha => hl.min u ha hu) (by omega)
end
end Go.Proofs.Ytphdhndljgihmaa
