/- Lengauer's and Tarjan's way: the walk, depth first, with a list of steps: its state and what it has at its end. No program here. -/
import Derived.Test.YtphdhndljgihmaaLtA
namespace Go.Proofs.Ytphdhndljgihmaa
set_option linter.unusedVariables false
set_option linter.unusedSimpArgs false

/-- The parent of a number, out of the list of parents. -/
def paL (pr : List Int) (i : Nat) : Nat := (pr.getD i 0).toNat
theorem paL_old {pr : List Int} {f : Int} {i : Nat} (h : i < pr.length) : paL (pr ++ [f]) i = paL pr i := by
  unfold paL
  rw [List.getD_eq_getElem?_getD, List.getD_eq_getElem?_getD, List.getElem?_append_left h]
theorem paL_new (pr : List Int) (f : Nat) : paL (pr ++ [(f : Int)]) pr.length = f := by
  unfold paL
  rw [List.getD_eq_getElem?_getD, List.getElem?_append_right (Nat.le_refl _)]
  simp
theorem Anc.same {u v : Nat → Nat} {k : Nat} (hu : ∀ i, i ≠ 0 → i < k → u i = v i ∧ u i < i) {a b : Nat} (h : Anc u a b) : b < k → Anc v a b := by
  induction h with
  | refl => exact fun _ => Anc.refl
  | up b h0 _ ih =>
    intro hb
    obtain ⟨e, hl⟩ := hu b h0 hb
    exact Anc.up b h0 (e ▸ ih (by omega))
/-- A step that is to be taken: a block, and the number that it is met from (-1: none). -/
abbrev Stp := Nat × Int
/-- The walk's state: what is ahead (the next one first), the blocks in their order, their parents' numbers. -/
structure Wst (S : Nat → List Nat) (n : Nat) (st : List Stp) (bl : List Nat) (pr : List Int) : Prop where
  nd : bl.Nodup
  ltn : ∀ x ∈ bl, x < n
  rch : ∀ x ∈ bl, Rch S x
  plen : pr.length = bl.length
  begin : bl = [] → st = [(0, -1)]
  fst : ∀ h : 0 < bl.length, bl[0] = 0 ∧ pr.head? = some (-1)
  par : ∀ i, i ≠ 0 → ∀ h : i < bl.length, paL pr i < i ∧ pr[i]? = some ((paL pr i : Nat) : Int) ∧ bl[i] ∈ S (bl.getD (paL pr i) 0)
  stk : bl ≠ [] → ∀ x ∈ st, ∃ p : Nat, x.2 = (p : Int) ∧ p < bl.length ∧ x.1 ∈ S (bl.getD p 0) ∧ Anc (paL pr) p (bl.length - 1)
  down : st.Pairwise fun x y => y.2 ≤ x.2
  left : ∀ (p : Nat) (h : p < bl.length), ∀ t ∈ S bl[p], t ∈ bl ∨ (t, (p : Int)) ∈ st
  fwd : ∀ p i (hp : p < i) (h : i < bl.length), bl[i] ∈ S (bl[p]'(by omega)) → Anc (paL pr) p i
  mid : ∀ v z y, y < bl.length → Anc (paL pr) v y → v ≤ z → z ≤ y → Anc (paL pr) v z
section
variable {S : Nat → List Nat} {n : Nat} {st : List Stp} {bl : List Nat} {pr : List Int}
theorem Wst.start (S : Nat → List Nat) (n : Nat) : Wst S n [(0, -1)] [] [] := by
  refine ⟨List.nodup_nil, fun x hx => by simp at hx, fun x hx => by simp at hx, rfl, fun _ => rfl, fun h => absurd h (by simp), fun i _ h => absurd h (by simp), fun h => absurd rfl h, by simp, fun p h => absurd h (by simp), fun p i _ h => absurd h (by simp), fun v z y h => absurd h (by simp)⟩
theorem Wst.skip {b : Nat} {f : Int} (h : Wst S n ((b, f) :: st) bl pr) (hb : b ∈ bl) : Wst S n st bl pr := by
  have hne : bl ≠ [] := List.ne_nil_of_mem hb
  refine ⟨h.nd, h.ltn, h.rch, h.plen, fun e => absurd e hne, h.fst, h.par, fun _ x hx => h.stk hne x (List.mem_cons_of_mem _ hx), (List.pairwise_cons.1 h.down).2, fun p hp t ht => ?_, h.fwd, h.mid⟩
  rcases h.left p hp t ht with e | e
  · exact .inl e
  · rcases List.mem_cons.1 e with e | e
    · injection e with e1 e2
      exact .inl (e1 ▸ hb)
    · exact .inr e
theorem Wst.le (h : Wst S n st bl pr) {a b : Nat} (k : Anc (paL pr) a b) : b < bl.length → a ≤ b := by
  induction k with
  | refl => exact fun _ => Nat.le_refl _
  | up b h0 _ ih =>
    intro hb
    have := (h.par b h0 hb).1
    have := ih (by omega)
    omega
/-- A block that has no number yet gets the next one; its successors lie ahead. -/
theorem Wst.take {b : Nat} {f : Int} (h : Wst S n ((b, f) :: st) bl pr) (hb : b ∉ bl) (hn : 0 < n) (hS : ∀ b, ∀ t ∈ S b, t < n) :
    Wst S n (((S b).map fun t => ((t, (bl.length : Int)) : Stp)).reverse ++ st) (bl ++ [b]) (pr ++ [f]) := by
  have hpl := h.plen
  have hlen : (bl ++ [b]).length = bl.length + 1 := by simp
  have hold : ∀ i, i < bl.length → paL (pr ++ [f]) i = paL pr i := fun i hi => paL_old (by omega)
  have hgo : ∀ {a c : Nat}, Anc (paL pr) a c → c < bl.length → Anc (paL (pr ++ [f])) a c := fun k hc =>
    k.same (k := bl.length) (fun i h0 hi => ⟨(hold i hi).symm, (h.par i h0 hi).1⟩) hc
  have hback : ∀ {a c : Nat}, Anc (paL (pr ++ [f])) a c → c < bl.length → Anc (paL pr) a c := fun k hc =>
    k.same (k := bl.length) (fun i h0 hi => ⟨hold i hi, by rw [hold i hi]; exact (h.par i h0 hi).1⟩) hc
  have hgd : ∀ i, i < bl.length → (bl ++ [b]).getD i 0 = bl.getD i 0 := fun i hi => by
    rw [List.getD_eq_getElem?_getD, List.getD_eq_getElem?_getD, List.getElem?_append_left hi]
  have hgi : ∀ i (hi : i < bl.length), bl.getD i 0 = bl[i] := fun i hi => by
    rw [List.getD_eq_getElem?_getD, List.getElem?_eq_getElem hi]; rfl
  have hfs := List.pairwise_cons.1 h.down
  -- what is known of the step that is taken
  have hb0 : (bl = [] ∧ st = [] ∧ b = 0 ∧ f = -1) ∨ (bl ≠ [] ∧ ∃ p : Nat, f = (p : Int) ∧ p < bl.length ∧ b ∈ S (bl.getD p 0) ∧ Anc (paL pr) p (bl.length - 1)) := by
    by_cases e : bl = []
    · have := h.begin e
      injection this with e1 e2
      injection e1 with e3 e4
      exact .inl ⟨e, e2, e3, e4⟩
    · exact .inr ⟨e, h.stk e (b, f) (List.mem_cons_self ..)⟩
  have hbn : b < n := by
    rcases hb0 with ⟨_, _, rfl, _⟩ | ⟨_, p, _, _, hp, _⟩
    · exact hn
    · exact hS _ b hp
  have hrb : Rch S b := by
    rcases hb0 with ⟨_, _, rfl, _⟩ | ⟨_, p, _, hpl, hp, _⟩
    · exact Rch.zero
    · exact Rch.step _ _ (h.rch _ (by rw [hgi p hpl]; exact List.getElem_mem hpl)) hp
  -- the new number's parent
  have hnew : bl ≠ [] → ∃ p : Nat, f = (p : Int) ∧ p < bl.length ∧ paL (pr ++ [f]) bl.length = p ∧ b ∈ S (bl.getD p 0) ∧ Anc (paL pr) p (bl.length - 1) ∧ Anc (paL (pr ++ [f])) p bl.length := fun hne => by
    rcases hb0 with ⟨e, _⟩ | ⟨_, p, rfl, hpl2, hp, ha⟩
    · exact absurd e hne
    · have e : paL (pr ++ [(p : Int)]) bl.length = p := by rw [← hpl]; exact paL_new pr p
      refine ⟨p, rfl, hpl2, e, hp, ha, Anc.up _ (by omega) ?_⟩
      rw [e]; exact Anc.refl
  have hmid : ∀ v z y, y < bl.length + 1 → Anc (paL (pr ++ [f])) v y → v ≤ z → z ≤ y → Anc (paL (pr ++ [f])) v z := by
    intro v z y hy ha hvz hzy
    by_cases e : y = bl.length
    · subst e
      by_cases e2 : z = bl.length
      · subst e2; exact ha
      by_cases e3 : v = bl.length
      · omega
      have hne : bl ≠ [] := fun e4 => by subst e4; simp at hzy e2; omega
      obtain ⟨p, _, hp1, hp2, _, hp3, _⟩ := hnew hne
      obtain ⟨_, h1⟩ := ha.strict e3
      rw [hp2] at h1
      have h2 := (hback h1 hp1).trans hp3
      exact hgo (h.mid v z (bl.length - 1) (by omega) h2 hvz (by omega)) (by omega)
    · exact hgo (h.mid v z y (by omega) (hback ha (by omega)) hvz hzy) (by omega)
  refine ⟨?_, fun x hx => ?_, fun x hx => ?_, by simp [hpl], fun e => by simp at e, fun _ => ?_, fun i h0 hi => ?_, fun _ x hx => ?_, ?_, fun p hp t ht => ?_, fun p i hp hi ht => ?_, fun v z y hy => hmid v z y (by omega)⟩
  · rw [List.nodup_append]
    exact ⟨h.nd, by simp, fun a ha c hc e => hb (by obtain rfl := List.mem_singleton.1 hc; exact e ▸ ha)⟩
  · rcases List.mem_append.1 hx with hx | hx
    · exact h.ltn x hx
    · obtain rfl := List.mem_singleton.1 hx; exact hbn
  · rcases List.mem_append.1 hx with hx | hx
    · exact h.rch x hx
    · obtain rfl := List.mem_singleton.1 hx; exact hrb
  · rcases hb0 with ⟨rfl, _, rfl, rfl⟩ | ⟨hne, _⟩
    · have : pr = [] := List.length_eq_zero_iff.1 (by simpa using hpl)
      subst this
      exact ⟨rfl, rfl⟩
    · have hl := List.length_pos_iff.2 hne
      obtain ⟨k1, k2⟩ := h.fst hl
      refine ⟨by rw [List.getElem_append_left hl]; exact k1, ?_⟩
      cases pr with
      | nil => simp at k2
      | cons a r => exact k2
  · rw [hlen] at hi
    by_cases e : i = bl.length
    · subst e
      obtain ⟨p, hp0, hp1, hp2, hp3, _⟩ := hnew (fun e => h0 (by rw [e]; rfl))
      rw [hp2, hgd p hp1]
      refine ⟨hp1, ?_, ?_⟩
      · rw [List.getElem?_append_right (by omega), hpl, hp0]; simp
      · simpa using hp3
    · have hi' : i < bl.length := by omega
      obtain ⟨k1, k2, k3⟩ := h.par i h0 hi'
      rw [hold i hi', hgd _ (by omega), List.getElem?_append_left (by omega), List.getElem_append_left hi']
      exact ⟨k1, k2, k3⟩
  · rw [hlen]
    rcases List.mem_append.1 hx with hx | hx
    · rw [List.mem_reverse, List.mem_map] at hx
      obtain ⟨t, ht, rfl⟩ := hx
      refine ⟨bl.length, rfl, Nat.lt_succ_self _, ?_, Anc.refl⟩
      rw [List.getD_eq_getElem?_getD, List.getElem?_append_right (Nat.le_refl _)]
      simpa using ht
    · have hne : bl ≠ [] := fun e => by
        rcases hb0 with ⟨_, e2, _⟩ | ⟨hne, _⟩
        · subst e2; simp at hx
        · exact hne e
      obtain ⟨q, hq0, hq1, hq2, hq3⟩ := h.stk hne x (List.mem_cons_of_mem _ hx)
      obtain ⟨p, hp0, hp1, _, _, hp3, hp4⟩ := hnew hne
      have hle := hfs.1 x hx
      have hqp : q ≤ p := by
        have : x.2 ≤ f := hle
        omega
      refine ⟨q, hq0, by omega, by rw [hgd q hq1]; exact hq2, ?_⟩
      exact (hgo (h.mid q p (bl.length - 1) (by omega) hq3 hqp (by omega)) hp1).trans hp4
  · rw [List.pairwise_append]
    refine ⟨?_, hfs.2, fun x hx y hy => ?_⟩
    · rw [List.pairwise_reverse, List.pairwise_map]
      exact List.pairwise_of_forall fun _ _ => Int.le_refl _
    · rw [List.mem_reverse, List.mem_map] at hx
      obtain ⟨t, ht, rfl⟩ := hx
      have hne : bl ≠ [] := fun e => by
        rcases hb0 with ⟨_, e2, _⟩ | ⟨hne, _⟩
        · subst e2; simp at hy
        · exact hne e
      obtain ⟨q, hq0, hq1, _⟩ := h.stk hne y (List.mem_cons_of_mem _ hy)
      show y.2 ≤ (bl.length : Int)
      omega
  · rw [hlen] at hp
    by_cases e : p = bl.length
    · subst e
      refine .inr (List.mem_append_left _ ?_)
      rw [List.mem_reverse, List.mem_map]
      exact ⟨t, by simpa using ht, rfl⟩
    · have hp' : p < bl.length := by omega
      rw [List.getElem_append_left hp'] at ht
      rcases h.left p hp' t ht with k | k
      · exact .inl (List.mem_append_left _ k)
      · rcases List.mem_cons.1 k with k | k
        · injection k with k1 k2
          exact .inl (by rw [k1]; simp)
        · exact .inr (List.mem_append_right _ k)
  · rw [hlen] at hi
    by_cases e : i = bl.length
    · subst e
      have hpl2 : p < bl.length := hp
      rw [List.getElem_append_left hpl2] at ht
      have e2 : (bl ++ [b])[bl.length]'(by simp) = b := by simp
      rw [e2] at ht
      have hne : bl ≠ [] := fun e => by subst e; simp at hpl2
      obtain ⟨q, hq0, hq1, hq2, hq3, hq4, hq5⟩ := hnew hne
      rcases h.left p hpl2 b ht with k | k
      · exact absurd k hb
      · rcases List.mem_cons.1 k with k | k
        · injection k with k1 k2
          have : p = q := by omega
          subst this
          exact hq5
        · obtain ⟨r, hr0, hr1, hr2, hr3⟩ := h.stk hne _ (List.mem_cons_of_mem _ k)
          have hle := hfs.1 _ k
          have e3 : r = p := by
            have : ((p : Nat) : Int) = (r : Int) := hr0
            omega
          subst e3
          have hrq : r ≤ q := by
            have : (r : Int) ≤ f := hle
            omega
          exact (hgo (h.mid r q (bl.length - 1) (by omega) hr3 hrq (by omega)) hq1).trans hq5
    · have hi' : i < bl.length := by omega
      rw [List.getElem_append_left hi', List.getElem_append_left (by omega)] at ht
      exact hgo (h.fwd p i hp hi' ht) hi'
end
end Go.Proofs.Ytphdhndljgihmaa
