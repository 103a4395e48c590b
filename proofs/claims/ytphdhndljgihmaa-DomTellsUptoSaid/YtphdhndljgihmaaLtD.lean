/- Lengauer's and Tarjan's way: what the walk has at its end are numbers of a walk; nearest dominators of numbers are those of blocks. No program here. -/
import Derived.Test.YtphdhndljgihmaaLtC
namespace Go.Proofs.Ytphdhndljgihmaa
set_option linter.unusedVariables false
set_option linter.unusedSimpArgs false

/-- The number of a block. -/
def nuL (bl : List Nat) (x : Nat) : Nat := bl.idxOf x
theorem nuL_lt {bl : List Nat} {x : Nat} (h : x ∈ bl) : nuL bl x < bl.length := List.idxOf_lt_length_of_mem h
theorem nuL_get {bl : List Nat} {x : Nat} (h : x ∈ bl) : bl[nuL bl x]'(nuL_lt h) = x := List.getElem_idxOf (nuL_lt h)
theorem nuL_at {bl : List Nat} (hd : bl.Nodup) {i : Nat} (h : i < bl.length) : nuL bl bl[i] = i := by
  have h1 := nuL_get (List.getElem_mem h)
  exact (List.getElem_inj hd).1 h1
theorem nuL_inj {bl : List Nat} {x y : Nat} (hx : x ∈ bl) (hy : y ∈ bl) (h : nuL bl x = nuL bl y) : x = y := by
  rw [← nuL_get hx, ← nuL_get hy]
  simp only [h]
/-- The successors of numbers. -/
def numT (S : Nat → List Nat) (bl : List Nat) (p : Nat) : List Nat := match bl[p]? with
  | some b => (S b).map (nuL bl)
  | none => []
theorem numT_at {S : Nat → List Nat} {bl : List Nat} {p : Nat} (h : p < bl.length) : numT S bl p = (S bl[p]).map (nuL bl) := by
  unfold numT
  rw [List.getElem?_eq_getElem h]
theorem numT_out {S : Nat → List Nat} {bl : List Nat} {p : Nat} (h : ¬ p < bl.length) : numT S bl p = [] := by
  unfold numT
  rw [List.getElem?_eq_none (by omega)]
/-- What the walk has at its end. -/
structure Walked (S : Nat → List Nat) (n : Nat) (bl : List Nat) (pr : List Int) : Prop where
  nd : bl.Nodup
  ltn : ∀ x ∈ bl, x < n
  plen : pr.length = bl.length
  rch : ∀ x, 0 < n → (x ∈ bl ↔ Rch S x)
  fst : ∀ h : 0 < bl.length, bl[0] = 0
  hd : 0 < bl.length → pr.head? = some (-1)
  par : ∀ i, i ≠ 0 → i < bl.length → pr[i]? = some ((paL pr i : Nat) : Int)
  dfs : Dfs bl.length (numT S bl) (paL pr)
theorem Wst.walked {S : Nat → List Nat} {n : Nat} {bl : List Nat} {pr : List Int} (h : Wst S n [] bl pr) : Walked S n bl pr := by
  have hcl : ∀ (p : Nat) (hp : p < bl.length), ∀ t ∈ S bl[p], t ∈ bl := fun p hp t ht => (h.left p hp t ht).resolve_right (by simp)
  have hne : bl ≠ [] := fun e => by have := h.begin e; simp at this
  have hl := List.length_pos_iff.2 hne
  have h0 : 0 ∈ bl := by
    have := (h.fst hl).1
    rw [← this]; exact List.getElem_mem hl
  have hall : ∀ x, Rch S x → x ∈ bl := fun x hx => by
    induction hx with
    | zero => exact h0
    | step a t _ ht ih =>
      obtain ⟨p, hp, rfl⟩ := List.getElem_of_mem ih
      exact hcl p hp t ht
  refine ⟨h.nd, h.ltn, h.plen, fun x _ => ⟨h.rch x, hall x⟩, fun hl => (h.fst hl).1, fun hl => (h.fst hl).2, fun i h1 h2 => (h.par i h1 h2).2.1, ?_⟩
  refine ⟨fun x y hy => ?_, fun i h1 h2 => ?_, fun p i ht hp => ?_, fun v z y hy => h.mid v z y hy⟩
  · by_cases hx : x < bl.length
    · rw [numT_at hx] at hy
      obtain ⟨t, ht, rfl⟩ := List.mem_map.1 hy
      exact ⟨hx, nuL_lt (hcl x hx t ht)⟩
    · rw [numT_out hx] at hy; simp at hy
  · obtain ⟨k1, k2, k3⟩ := h.par i h1 h2
    refine ⟨k1, ?_⟩
    have hp : paL pr i < bl.length := by omega
    rw [numT_at hp, List.mem_map]
    rw [List.getD_eq_getElem?_getD, List.getElem?_eq_getElem hp] at k3
    exact ⟨bl[i], k3, nuL_at h.nd h2⟩
  · by_cases hx : p < bl.length
    · rw [numT_at hx] at ht
      obtain ⟨t, ht, e⟩ := List.mem_map.1 ht
      have htb := hcl p hx t ht
      have hi : i < bl.length := e ▸ nuL_lt htb
      refine h.fwd p i hp hi ?_
      have : bl[i] = t := by
        have := nuL_get htb
        simp only [e] at this
        exact this
      rw [this]; exact ht
    · rw [numT_out hx] at ht; simp at ht
section
variable {S : Nat → List Nat} {n : Nat} {bl : List Nat} {pr : List Int}
theorem Walked.mem_num (W : Walked S n bl pr) (hn : 0 < n) {p i : Nat} (hi : i < bl.length) (hp : p < bl.length) : i ∈ numT S bl p ↔ bl[i] ∈ S bl[p] := by
  rw [numT_at hp, List.mem_map]
  constructor
  · rintro ⟨t, ht, e⟩
    have htb := (W.rch t hn).2 (Rch.step _ t ((W.rch _ hn).1 (List.getElem_mem hp)) ht)
    have := nuL_get htb
    simp only [e] at this
    rw [this]; exact ht
  · exact fun h => ⟨_, h, nuL_at W.nd hi⟩
theorem Walked.pos (W : Walked S n bl pr) (hn : 0 < n) : 0 < bl.length := List.length_pos_of_mem ((W.rch 0 hn).2 Rch.zero)
theorem Walked.to_num (W : Walked S n bl pr) (hn : 0 < n) {g : Nat} (hg : g ∈ bl) {x : Nat} (h : Rch (cut S g) x) : x ∈ bl ∧ Rch (cut (numT S bl) (nuL bl g)) (nuL bl x) := by
  induction h with
  | zero =>
    have h0 := (W.rch 0 hn).2 Rch.zero
    have e : nuL bl 0 = 0 := by
      have := nuL_at W.nd (W.pos hn)
      rw [W.fst (W.pos hn)] at this
      exact this
    rw [e]; exact ⟨h0, Rch.zero⟩
  | step a t _ ht ih =>
    obtain ⟨k1, k2⟩ := mem_cut.1 ht
    have htb := (W.rch t hn).2 (Rch.step a t ((W.rch a hn).1 ih.1) k1)
    refine ⟨htb, Rch.step _ _ ih.2 (mem_cut.2 ⟨?_, fun e => k2 (nuL_inj htb hg e)⟩)⟩
    rw [numT_at (nuL_lt ih.1), List.mem_map]
    exact ⟨t, by rw [nuL_get ih.1]; exact k1, rfl⟩
theorem Walked.of_num (W : Walked S n bl pr) (hn : 0 < n) {g : Nat} (hg : g < bl.length) {i : Nat} (h : Rch (cut (numT S bl) g) i) : ∃ hi : i < bl.length, Rch (cut S bl[g]) bl[i] := by
  induction h with
  | zero =>
    refine ⟨W.pos hn, ?_⟩
    rw [W.fst (W.pos hn)]; exact Rch.zero
  | step a t _ ht ih =>
    obtain ⟨k1, k2⟩ := mem_cut.1 ht
    obtain ⟨ha, h1⟩ := ih
    have ht' := (W.dfs.lt a t k1).2
    refine ⟨ht', Rch.step _ _ h1 (mem_cut.2 ⟨(W.mem_num hn ht' ha).1 k1, fun e => k2 ((List.getElem_inj W.nd).1 e)⟩)⟩
theorem Walked.dm_iff (W : Walked S n bl pr) (hn : 0 < n) {i j : Nat} (hi : i < bl.length) (hj : j < bl.length) : Dm (numT S bl) i j ↔ Dm S bl[i] bl[j] := by
  have ri := (W.rch _ hn).1 (List.getElem_mem hi)
  have rj := (W.rch _ hn).1 (List.getElem_mem hj)
  have f0 := W.fst (W.pos hn)
  have hz : i = 0 ↔ bl[i] = 0 :=
    ⟨fun e => by subst e; exact f0, fun e => (List.getElem_inj W.nd).1 (e.trans f0.symm)⟩
  constructor
  · rintro ⟨_, _, h⟩
    refine ⟨ri, rj, h.imp (fun e => by simp only [e]) fun h m => h ⟨fun e => m.1 (hz.1 e), ?_⟩⟩
    have := (W.to_num hn (List.getElem_mem hi) m.2).2
    rw [nuL_at W.nd hi, nuL_at W.nd hj] at this
    exact this
  · rintro ⟨_, _, h⟩
    refine ⟨W.dfs.rch_all hi, W.dfs.rch_all hj, h.imp (fun e => (List.getElem_inj W.nd).1 e) fun h m => h ⟨fun e => m.1 (hz.2 e), ?_⟩⟩
    exact (W.of_num hn hi m.2).2
/-- The nearest dominator of a number is that of its block. -/
theorem Walked.up (W : Walked S n bl pr) (hn : 0 < n) {i u : Nat} (h : IsUp (numT S bl) i u) (hi : i < bl.length) : ∃ hu : u < bl.length, IsUp S bl[i] bl[u] := by
  have hu : u < bl.length := by
    have := W.dfs.le (dm_anc W.dfs hi h.2.1) hi
    omega
  refine ⟨hu, fun e => h.1 ((List.getElem_inj W.nd).1 e), (W.dm_iff hn hu hi).1 h.2.1, fun c hc hd => ?_⟩
  have hcb := (W.rch c hn).2 hd.1
  obtain ⟨k, hk, rfl⟩ := List.getElem_of_mem hcb
  exact (W.dm_iff hn hk hu).1 (h.2.2 k (fun e => hc (by simp only [e])) ((W.dm_iff hn hk hi).2 hd))
end
end Go.Proofs.Ytphdhndljgihmaa
