/- Dominance as mathematics, further: the order, going up from nearest dominator to nearest dominator, edges, blocks changed about. No program here. -/
import Derived.Test.YtphdhndljgihmaaDPure
namespace Go.Proofs.Ytphdhndljgihmaa
set_option linter.unusedVariables false
set_option linter.unusedSimpArgs false

theorem split_uniq {x : Nat} {l2 m2 : List Nat} : ∀ l1 m1 : List Nat, (l1 ++ x :: l2).Nodup → l1 ++ x :: l2 = m1 ++ x :: m2 → l1 = m1
  | [], [], _, _ => rfl
  | [], y :: m1, hd, e => by
    simp only [List.nil_append, List.cons_append, List.cons.injEq] at e hd
    rw [e.2] at hd
    exact absurd (List.mem_append_right m1 (List.mem_cons_self ..)) (List.nodup_cons.1 hd).1
  | y :: l1, [], hd, e => by
    simp only [List.nil_append, List.cons_append, List.cons.injEq] at e hd
    rw [e.1] at hd
    exact absurd (List.mem_append_right l1 (List.mem_cons_self ..)) (List.nodup_cons.1 hd).1
  | y :: l1, z :: m1, hd, e => by
    simp only [List.cons_append, List.cons.injEq] at e hd
    rw [e.1, split_uniq l1 m1 (List.nodup_cons.1 hd).2 e.2]
theorem miss_ahead {S : Nat → List Nat} {n : Nat} {L : List Nat} (hO : Ordered S n L) {u : Nat} : ∀ (k : Nat) (l1 l2 : List Nat) (x : Nat), l1.length ≤ k → L = l1 ++ x :: l2 → u ∉ l1 → x ≠ u → Miss S u x := by
  intro k
  induction k with
  | zero =>
    intro l1 l2 x hk e hu hx
    obtain rfl : l1 = [] := List.length_eq_zero_iff.1 (by omega)
    rcases hO.pred x (by rw [e]; simp) with h0 | ⟨p, hp, m1, m2, em, hm⟩
    · subst h0; exact Miss.zero fun e => hx e.symm
    · have := split_uniq [] m1 (by have := hO.nd; rw [e] at this; exact this) (e.symm.trans em)
      subst this; simp at hm
  | succ k ih =>
    intro l1 l2 x hk e hu hx
    rcases hO.pred x (by rw [e]; simp) with h0 | ⟨p, hp, m1, m2, em, hm⟩
    · subst h0; exact Miss.zero fun e => hx e.symm
    · have := split_uniq l1 m1 (by have := hO.nd; rw [e] at this; exact this) (e.symm.trans em)
      subst this
      obtain ⟨q1, q2, eq⟩ := List.append_of_mem hm
      have hpu : p ≠ u := fun e => hu (e ▸ hm)
      refine (ih q1 (q2 ++ x :: l2) p ?_ ?_ ?_ hpu).step hp hx
      · rw [eq] at hk; simp at hk; omega
      · rw [e, eq]; simp
      · exact fun h => hu (by rw [eq]; exact List.mem_append_left _ h)
/-- A strict dominator stands ahead in the order. -/
theorem Dm.ahead {S : Nat → List Nat} {n : Nat} {L : List Nat} (hO : Ordered S n L) (hn : 0 < n) {u b : Nat} (h : Dm S u b) (hne : u ≠ b) : Ahead u b L := by
  obtain ⟨l1, l2, e⟩ := List.append_of_mem ((hO.rch b hn).2 h.2.1)
  refine ⟨l1, l2, e, ?_⟩
  apply Classical.byContradiction
  intro hu
  exact (h.2.2.resolve_left hne) (miss_ahead hO l1.length l1 l2 b (Nat.le_refl _) e hu fun e => hne e.symm)
theorem Ahead.idx {u b : Nat} {L : List Nat} (h : Ahead u b L) : ∃ (i j : Nat) (hi : i < L.length) (hj : j < L.length), i < j ∧ L[i] = u ∧ L[j] = b := by
  obtain ⟨l1, l2, rfl, hu⟩ := h
  obtain ⟨i, hi, e⟩ := List.getElem_of_mem hu
  refine ⟨i, l1.length, by simp; omega, by simp, hi, ?_, ?_⟩
  · rw [List.getElem_append_left hi]; exact e
  · simp

open Classical in
/-- How many blocks dominate b. -/
noncomputable def cntD (S : Nat → List Nat) (n b : Nat) : Nat := (List.range n).countP fun c => decide (Dm S c b)
theorem cntD_le (S : Nat → List Nat) (n b : Nat) : cntD S n b ≤ n := by
  unfold cntD
  exact Nat.le_trans List.countP_le_length (by simp)
theorem countP_less {p q : Nat → Bool} {b : Nat} : ∀ l : List Nat, (∀ c, q c = true → p c = true) → b ∈ l → p b = true → q b = false → l.countP q < l.countP p
  | [], _, h, _, _ => by simp at h
  | x :: l, hi, h, hp, hq => by
    have hle : l.countP q ≤ l.countP p := List.countP_mono_left fun c _ hc => hi c hc
    rw [List.countP_cons, List.countP_cons]
    rcases List.mem_cons.1 h with e | h
    · subst e
      rw [hp, hq]; simp; omega
    · have := countP_less l hi h hp hq
      cases hqx : q x with
      | true => rw [hi x hqx]; simp; omega
      | false => cases hpx : p x <;> simp <;> omega
open Classical in
theorem cntD_up {S : Nat → List Nat} {n b u : Nat} (hb : b < n) (h : IsUp S b u) : cntD S n u < cntD S n b := by
  unfold cntD
  refine countP_less (b := b) _ (fun c hc => decide_eq_true ((of_decide_eq_true hc).trans h.2.1)) (List.mem_range.2 hb) (decide_eq_true (Dm.refl h.rch)) (decide_eq_false fun d => ?_)
  exact h.1 (h.2.1.antisymm d)

theorem cntD_pos {S : Nat → List Nat} {n x : Nat} (hx : x < n) (h : Rch S x) : 0 < cntD S n x := by
  unfold cntD
  exact List.countP_pos_iff.2 ⟨x, List.mem_range.2 hx, by simpa using Dm.refl h⟩
/-- Going up from b, i times so far, towards a: we are at x (-1: past block 0). -/
structure Climb (S : Nat → List Nat) (n a b i : Nat) (x : Int) : Prop where
  low : -1 ≤ x
  dom : ∀ y : Nat, x = (y : Int) → Dm S y b
  has : Dm S a b → ∃ y : Nat, x = (y : Int) ∧ Dm S a y
  cnt : ∀ y : Nat, x = (y : Int) → i + cntD S n y ≤ n
  fin : i ≤ n
theorem Climb.start {S : Nat → List Nat} {n a b : Nat} (hb : Rch S b) : Climb S n a b 0 (b : Int) := by
  refine ⟨by omega, fun y e => ?_, fun h => ⟨b, rfl, h⟩, fun y e => ?_, Nat.zero_le _⟩
  · obtain rfl : b = y := by omega
    exact Dm.refl hb
  · have := cntD_le S n y
    omega
theorem Climb.step {S : Nat → List Nat} {n a b i x : Nat} (hn0 : 0 < n) (hS : ∀ b, ∀ t ∈ S b, t < n) (h : Climb S n a b i (x : Int)) (hx : x ≠ a) : Climb S n a b (i + 1) (upI S x) := by
  have hd := h.dom x rfl
  have hc := h.cnt x rfl
  have hxn := rch_lt hn0 hS hd.1
  rcases upI_cases S x with ⟨u, hu, e⟩ | ⟨hn, e⟩
  · have hlt := cntD_up hxn hu
    rw [e]
    refine ⟨by omega, fun y ey => ?_, fun k => ?_, fun y ey => ?_, by omega⟩
    · obtain rfl : u = y := by omega
      exact hu.2.1.trans hd
    · obtain ⟨y, ey, dy⟩ := h.has k
      obtain rfl : x = y := by omega
      exact ⟨u, rfl, hu.2.2 a (fun e => hx e.symm) dy⟩
    · obtain rfl : u = y := by omega
      omega
  · rw [e]
    have hx0 : 0 < cntD S n x := cntD_pos hxn hd.1
    refine ⟨by omega, fun y ey => by omega, fun k => ?_, fun y ey => by omega, by omega⟩
    obtain ⟨y, ey, dy⟩ := h.has k
    obtain rfl : x = y := by omega
    rcases Nat.eq_zero_or_pos x with e0 | e0
    · subst e0; exact absurd dy.at_zero fun e => hx e.symm
    · obtain ⟨u, hu⟩ := IsUp.ex hn0 hS hd.1 (by omega)
      exact absurd hu (hn u)
theorem Climb.ends {S : Nat → List Nat} {n a b i : Nat} {x : Int} (h : Climb S n a b i x) (hx : x < 0 ∨ x = (a : Int)) : x = (a : Int) ↔ Dm S a b := by
  constructor
  · intro e; exact h.dom a e
  · intro k
    obtain ⟨y, ey, _⟩ := h.has k
    rcases hx with hx | hx
    · omega
    · exact hx

/-- Which blocks an edge from q to b leaves, as going up from q tells it. -/
theorem edge_iff {S : Nat → List Nat} {n b x : Nat} (hn : 0 < n) (hS : ∀ b, ∀ t ∈ S b, t < n) (hb : Rch S b) : (x ≠ b ∧ Dm S x b) ↔ ∃ u, IsUp S b u ∧ Dm S x u := by
  constructor
  · rintro ⟨hne, hd⟩
    have b0 : b ≠ 0 := fun e => hne (by subst e; exact hd.at_zero)
    obtain ⟨u, hu⟩ := IsUp.ex hn hS hb b0
    exact ⟨u, hu, hu.2.2 x hne hd⟩
  · rintro ⟨u, hu, hd⟩
    refine ⟨fun e => ?_, hd.trans hu.2.1⟩
    subst e
    exact hu.1 (hu.2.1.antisymm hd)
/-- Going up from q, i times so far, towards b's nearest dominator: at x; V are those passed. -/
structure Edge (S : Nat → List Nat) (n b q i : Nat) (x : Int) (V : Nat → Prop) : Prop where
  low : -1 ≤ x
  dom : ∀ y : Nat, x = (y : Int) → Dm S y q
  near : ∀ u, IsUp S b u → ∃ y : Nat, x = (y : Int) ∧ Dm S u y
  past : ∀ y, V y → Dm S y q ∧ ¬ ∃ u, IsUp S b u ∧ Dm S y u
  rest : ∀ y, Dm S y q → V y ∨ ∃ z : Nat, x = (z : Int) ∧ Dm S y z
  cnt : ∀ y : Nat, x = (y : Int) → i + cntD S n y ≤ n
  fin : i ≤ n
theorem Edge.start {S : Nat → List Nat} {n b q : Nat} (hq : Rch S q) (hb : b ∈ S q) : Edge S n b q 0 (q : Int) fun _ => False := by
  refine ⟨by omega, fun y e => ?_, fun u hu => ⟨q, rfl, hu.2.1.pred hu.1 hq hb⟩, fun y h => h.elim, fun y h => .inr ⟨q, rfl, h⟩, fun y e => ?_, Nat.zero_le _⟩
  · obtain rfl : q = y := by omega
    exact Dm.refl hq
  · have := cntD_le S n y
    omega
theorem Edge.step {S : Nat → List Nat} {n b q i x : Nat} {V : Nat → Prop} (hn : 0 < n) (hS : ∀ b, ∀ t ∈ S b, t < n) (h : Edge S n b q i (x : Int) V) (hx : (x : Int) ≠ upI S b) : Edge S n b q (i + 1) (upI S x) fun y => V y ∨ y = x := by
  have hd := h.dom x rfl
  have hc := h.cnt x rfl
  have hxn := rch_lt hn hS hd.1
  have hpast : ∀ y, V y ∨ y = x → Dm S y q ∧ ¬ ∃ u, IsUp S b u ∧ Dm S y u := by
    rintro y (hy | rfl)
    · exact h.past y hy
    · refine ⟨hd, fun ⟨u, hu, hyu⟩ => ?_⟩
      obtain ⟨z, ez, dz⟩ := h.near u hu
      obtain rfl : y = z := by omega
      have := dz.antisymm hyu
      subst this
      exact hx (upI_some hu).symm
  rcases upI_cases S x with ⟨u, hu, e⟩ | ⟨hno, e⟩
  · have hlt := cntD_up hxn hu
    rw [e]
    refine ⟨by omega, fun y ey => ?_, fun v hv => ?_, hpast, fun y hy => ?_, fun y ey => ?_, by omega⟩
    · obtain rfl : u = y := by omega
      exact hu.2.1.trans hd
    · obtain ⟨y, ey, dy⟩ := h.near v hv
      obtain rfl : x = y := by omega
      exact ⟨u, rfl, hu.2.2 v (fun e => hx (by rw [← e]; exact (upI_some hv).symm)) dy⟩
    · rcases h.rest y hy with k | ⟨z, ez, dz⟩
      · exact .inl (.inl k)
      · obtain rfl : x = z := by omega
        by_cases e2 : y = x
        · exact .inl (.inr e2)
        · exact .inr ⟨u, rfl, hu.2.2 y e2 dz⟩
    · obtain rfl : u = y := by omega
      omega
  · rw [e]
    have hx0 : 0 < cntD S n x := cntD_pos hxn hd.1
    have x0 : x = 0 := Classical.byContradiction fun h0 => by
      obtain ⟨u, hu⟩ := IsUp.ex hn hS hd.1 h0
      exact hno u hu
    refine ⟨by omega, fun y ey => by omega, fun v hv => ?_, hpast, fun y hy => ?_, fun y ey => by omega, by omega⟩
    · obtain ⟨y, ey, dy⟩ := h.near v hv
      obtain rfl : x = y := by omega
      subst x0
      have := dy.at_zero
      subst this
      exact absurd (upI_some hv).symm hx
    · rcases h.rest y hy with k | ⟨z, ez, dz⟩
      · exact .inl (.inl k)
      · obtain rfl : x = z := by omega
        subst x0
        exact .inl (.inr dz.at_zero)
theorem Edge.ends {S : Nat → List Nat} {n b q i : Nat} {x : Int} {V : Nat → Prop} (hn : 0 < n) (hS : ∀ b, ∀ t ∈ S b, t < n) (h : Edge S n b q i x V) (hx : x < 0 ∨ x = upI S b) (hb : Rch S b) (y : Nat) : V y ↔ Dm S y q ∧ ¬ (y ≠ b ∧ Dm S y b) := by
  rw [edge_iff hn hS hb]
  refine ⟨h.past y, fun ⟨h1, h2⟩ => ?_⟩
  rcases h.rest y h1 with k | ⟨z, ez, dz⟩
  · exact k
  · exfalso
    rcases hx with hx | hx
    · omega
    · exact h2 ⟨z, upI_iff.1 (hx.symm.trans ez), dz⟩

theorem rch_mv {a b : Nat} {S S' : Nat → List Nat} (ha : 0 < a) (hb : 0 < b) (hS : ∀ x, S' (mvN a b x) = (S x).map (mvN a b)) {x : Nat} (h : Rch S x) : Rch S' (mvN a b x) := by
  induction h with
  | zero => rw [mvN_zero ha hb]; exact Rch.zero
  | step y t _ ht ih => exact Rch.step _ _ ih (by rw [hS]; exact mem_mv.2 ht)
theorem cut_mv {a b : Nat} {S S' : Nat → List Nat} (hS : ∀ x, S' (mvN a b x) = (S x).map (mvN a b)) (g x : Nat) : cut S' (mvN a b g) (mvN a b x) = (cut S g x).map (mvN a b) := by
  unfold cut
  rw [hS, List.filter_map]
  congr 1
  apply List.filter_congr
  intro t _
  by_cases e : t = g
  · subst e; simp
  · have : mvN a b t ≠ mvN a b g := fun k => e (mvN_inj k)
    show (mvN a b t != mvN a b g) = (t != g)
    rw [bne_iff_ne.2 this, bne_iff_ne.2 e]
theorem miss_mv {a b : Nat} {S S' : Nat → List Nat} (ha : 0 < a) (hb : 0 < b) (hS : ∀ x, S' (mvN a b x) = (S x).map (mvN a b)) {g x : Nat} (h : Miss S g x) : Miss S' (mvN a b g) (mvN a b x) :=
  ⟨fun e => h.1 (mvN_inj (e.trans (mvN_zero ha hb).symm)), rch_mv ha hb (cut_mv hS g) h.2⟩
theorem back_mv {a b : Nat} {S S' : Nat → List Nat} (hS : ∀ x, S' (mvN a b x) = (S x).map (mvN a b)) (x : Nat) : S (mvN a b x) = (S' x).map (mvN a b) := by
  have := hS (mvN a b x)
  rw [mvN_mvN] at this
  rw [this, List.map_map]
  conv => lhs; rw [← List.map_id (S (mvN a b x))]
  exact List.map_congr_left fun y _ => (mvN_mvN a b y).symm
theorem dm_mv {a b : Nat} {S S' : Nat → List Nat} (ha : 0 < a) (hb : 0 < b) (hS : ∀ x, S' (mvN a b x) = (S x).map (mvN a b)) {x y : Nat} (h : Dm S x y) : Dm S' (mvN a b x) (mvN a b y) := by
  refine ⟨rch_mv ha hb hS h.1, rch_mv ha hb hS h.2.1, ?_⟩
  rcases h.2.2 with e | k
  · exact .inl (by rw [e])
  · refine .inr fun m => k ?_
    have := miss_mv ha hb (back_mv hS) m
    rwa [mvN_mvN, mvN_mvN] at this
theorem isUp_mv {a b : Nat} {S S' : Nat → List Nat} (ha : 0 < a) (hb : 0 < b) (hS : ∀ x, S' (mvN a b x) = (S x).map (mvN a b)) {x u : Nat} (h : IsUp S x u) : IsUp S' (mvN a b x) (mvN a b u) := by
  refine ⟨fun e => h.1 (mvN_inj e), dm_mv ha hb hS h.2.1, fun c hc hd => ?_⟩
  have h1 := dm_mv ha hb (back_mv hS) hd
  rw [mvN_mvN] at h1
  have h2 := dm_mv ha hb hS (h.2.2 (mvN a b c) (fun e => hc (by rw [← e, mvN_mvN])) h1)
  rwa [mvN_mvN] at h2
/-- With two blocks changed about the nearest dominators are changed about. -/
theorem upI_mv {a b : Nat} {S S' : Nat → List Nat} (ha : 0 < a) (hb : 0 < b) (hS : ∀ x, S' (mvN a b x) = (S x).map (mvN a b)) (x : Nat) : upI S' (mvN a b x) = mvI a b (upI S x) := by
  rcases upI_cases S x with ⟨u, hu, e⟩ | ⟨hn, e⟩
  · rw [e, mvI_nat, upI_some (isUp_mv ha hb hS hu)]
  · rw [e, upI_none]
    · unfold mvI
      rw [if_neg (by omega), if_neg (by omega)]
    · intro u hu
      have := isUp_mv ha hb (back_mv hS) hu
      rw [mvN_mvN] at this
      exact hn _ this
end Go.Proofs.Ytphdhndljgihmaa
