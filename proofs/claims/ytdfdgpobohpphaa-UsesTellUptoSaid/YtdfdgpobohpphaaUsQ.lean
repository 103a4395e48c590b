/- The search for what is needed, as plain data. -/
import Derived.Test.YtdfdgpobohpphaaUsP
namespace Go.Proofs.Ytdfdgpobohpphaa
set_option linter.unusedVariables false
set_option linter.unusedSimpArgs false

def getT (t : List (List Bool)) (b i : Nat) : Bool := (t.getD b []).getD i false
def setT (t : List (List Bool)) (p : Nat × Nat) : List (List Bool) := t.set p.1 ((t.getD p.1 []).set p.2 true)
def InR (sh : List Nat) (p : Nat × Nat) : Prop := p.1 < sh.length ∧ p.2 < sh.getD p.1 0
def shape (t : List (List Bool)) : List Nat := t.map List.length
theorem shape_set (t : List (List Bool)) (p : Nat × Nat) : shape (setT t p) = shape t := by
  unfold shape setT
  apply List.ext_getElem?
  intro j
  rw [List.getElem?_map, List.getElem?_map, List.getElem?_set]
  by_cases e : p.1 = j
  · subst e
    rw [if_pos rfl]
    by_cases h : p.1 < t.length
    · rw [if_pos h]; simp [List.getD_eq_getElem?_getD, h]
    · rw [if_neg h, List.getElem?_eq_none (by omega)]
  · rw [if_neg e]
theorem shape_fold : ∀ (ps : List (Nat × Nat)) (t : List (List Bool)), shape (ps.foldl setT t) = shape t
  | [], t => rfl
  | p :: ps, t => by rw [List.foldl_cons, shape_fold ps, shape_set]
theorem inR_len {t : List (List Bool)} {p : Nat × Nat} (h : InR (shape t) p) : p.1 < t.length ∧ p.2 < (t.getD p.1 []).length := by
  obtain ⟨h1, h2⟩ := h
  unfold shape at h1 h2
  rw [List.length_map] at h1
  refine ⟨h1, ?_⟩
  simpa [List.getD_eq_getElem?_getD, h1] using h2
theorem getT_lt {t : List (List Bool)} {b i : Nat} (h : getT t b i = true) : InR (shape t) (b, i) := by
  unfold getT at h
  have h1 : b < t.length := by
    by_cases c : b < t.length
    · exact c
    · rw [List.getD_eq_getElem?_getD, List.getD_eq_getElem?_getD, List.getElem?_eq_none (l := t) (by omega)] at h
      simp at h
  refine ⟨by unfold shape; simpa using h1, ?_⟩
  have e : (shape t).getD b 0 = (t.getD b []).length := by unfold shape; simp [List.getD_eq_getElem?_getD, h1]
  show i < (shape t).getD b 0
  rw [e]
  by_cases c : i < (t.getD b []).length
  · exact c
  · rw [List.getD_eq_getElem?_getD (l := t.getD b []), List.getElem?_eq_none (by omega)] at h
    simp at h
theorem getT_set {t : List (List Bool)} {p : Nat × Nat} (h : InR (shape t) p) (b i : Nat) : getT (setT t p) b i = if (b, i) = p then true else getT t b i := by
  obtain ⟨h1, h2⟩ := inR_len h
  obtain ⟨c, d⟩ := p
  unfold getT setT
  simp only at h1 h2 ⊢
  by_cases e : b = c
  · subst e
    have e1 : (t.set b ((t.getD b []).set d true)).getD b [] = (t.getD b []).set d true := by
      rw [List.getD_eq_getElem?_getD, List.getElem?_set_self h1]; rfl
    rw [e1]
    by_cases e2 : i = d
    · subst e2
      rw [if_pos rfl, List.getD_eq_getElem?_getD, List.getElem?_set_self h2]; rfl
    · rw [if_neg (by intro e3; injection e3 with _ e3; exact e2 e3), List.getD_eq_getElem?_getD, List.getElem?_set_ne (Ne.symm e2), ← List.getD_eq_getElem?_getD]
  · rw [if_neg (by intro e3; injection e3 with e3 _; exact e e3)]
    have e1 : (t.set c ((t.getD c []).set d true)).getD b [] = t.getD b [] := by
      rw [List.getD_eq_getElem?_getD, List.getElem?_set_ne (Ne.symm e), List.getD_eq_getElem?_getD]
    rw [e1]
theorem getT_fold : ∀ (ps : List (Nat × Nat)) {t : List (List Bool)}, (∀ p ∈ ps, InR (shape t) p) → ∀ b i, getT (ps.foldl setT t) b i = true ↔ getT t b i = true ∨ (b, i) ∈ ps
  | [], t, _, b, i => by simp
  | p :: ps, t, h, b, i => by
    rw [List.foldl_cons, getT_fold ps (fun q hq => by rw [shape_set]; exact h q (List.mem_cons_of_mem _ hq)), getT_set (h p List.mem_cons_self)]
    by_cases e : (b, i) = p
    · rw [if_pos e]; simp [e]
    · rw [if_neg e]; simp [e]
/-- Places that wait, by their registers. -/
def PQ (Q : List (Int × Nat × Nat)) (r : Int) : List (Nat × Nat) := (Q.filter fun x => decide (x.1 = r)).map Prod.snd
structure Ps where
  t : List (List Bool)
  Q : List (Int × Nat × Nat)
  T : List (Nat × Nat)
theorem PQ_mem {Q : List (Int × Nat × Nat)} {r : Int} {p : Nat × Nat} : p ∈ PQ Q r ↔ (r, p) ∈ Q := by
  unfold PQ
  simp only [List.mem_map, List.mem_filter, decide_eq_true_eq]
  constructor
  · rintro ⟨x, ⟨h1, h2⟩, h3⟩
    obtain ⟨a, b⟩ := x
    simp only at h2 h3
    subst h2 h3
    exact h1
  · intro h
    exact ⟨(r, p), ⟨h, rfl⟩, rfl⟩
theorem PQ_snoc (Q : List (Int × Nat × Nat)) (r k : Int) (p : Nat × Nat) : PQ (Q ++ [(r, p)]) k = if k = r then PQ Q k ++ [p] else PQ Q k := by
  unfold PQ
  rw [List.filter_append, List.map_append]
  by_cases e : k = r
  · subst e; rw [if_pos rfl]; simp
  · rw [if_neg e]; simp [List.filter_cons, Ne.symm e]
def dropQ (Q : List (Int × Nat × Nat)) (r : Int) : List (Int × Nat × Nat) := Q.filter fun x => !decide (x.1 = r)
theorem PQ_drop (Q : List (Int × Nat × Nat)) (r k : Int) : PQ (dropQ Q r) k = if k = r then [] else PQ Q k := by
  unfold PQ dropQ
  rw [List.filter_filter]
  by_cases e : k = r
  · subst e
    rw [if_pos rfl]
    have : (fun x : Int × Nat × Nat => decide (x.1 = k) && !decide (x.1 = k)) = fun _ => false := by funext x; simp
    rw [this]; simp
  · rw [if_neg e]
    congr 1
    apply List.filter_congr
    intro x _
    by_cases e2 : x.1 = k
    · rw [e2]; simp [e]
    · simp [e2]
theorem dropQ_mem {Q : List (Int × Nat × Nat)} {r : Int} {x : Int × Nat × Nat} : x ∈ dropQ Q r ↔ x ∈ Q ∧ x.1 ≠ r := by
  unfold dropQ
  simp [List.mem_filter]
theorem PQ_len (Q : List (Int × Nat × Nat)) (r : Int) : (PQ Q r).length + (dropQ Q r).length = Q.length := by
  induction Q with
  | nil => rfl
  | cons x Q ih =>
    unfold PQ dropQ at ih ⊢
    rw [List.length_map] at ih ⊢
    by_cases e : x.1 = r
    · simp only [List.filter_cons, e, decide_true, ↓reduceIte, Bool.not_true, Bool.false_eq_true, List.length_cons]
      omega
    · simp only [List.filter_cons, e, decide_false, ↓reduceIte, Bool.not_false, Bool.false_eq_true, List.length_cons]
      omega
/-- One register is followed. -/
def folR (s : Ps) (r : Int) : Ps := ⟨(PQ s.Q r).foldl setT s.t, dropQ s.Q r, s.T ++ PQ s.Q r⟩
/-- What stands while the search goes on; x tells of a place what counts. F: what has been followed of a place that is being followed. -/
structure Inv (cs : List (List Nf)) (M : Nat) (s : Ps) (p : Option (Nat × Nat)) (F : Int → Prop) : Prop where
  sh : shape s.t = cs.map List.length
  sound : ∀ b i, getT s.t b i = true → Need cs.flatten (base cs b + i)
  busy : ∀ b i (h : b < cs.length) (hi : i < cs[b].length), cs[b][i].idle = false → getT s.t b i = true
  wait : ∀ b i (h : b < cs.length) (hi : i < cs[b].length), cs[b][i].res = true → getT s.t b i = true ∨ (cs[b][i].reg, b, i) ∈ s.Q
  waits : ∀ x ∈ s.Q, ∃ (h : x.2.1 < cs.length) (hi : x.2.2 < cs[x.2.1].length), cs[x.2.1][x.2.2].res = true ∧ cs[x.2.1][x.2.2].reg = x.1
  todo : ∀ x ∈ s.T, getT s.t x.1 x.2 = true
  done : ∀ b i (h : b < cs.length) (hi : i < cs[b].length), getT s.t b i = true → (b, i) ∈ s.T ∨ some (b, i) = p ∨ ∀ r, cs[b][i].use r = true → ∀ x ∈ s.Q, x.1 ≠ r
  part : ∀ r, F r → ∀ x ∈ s.Q, x.1 ≠ r
  size : s.T.length + s.Q.length ≤ M
theorem getD_map_len (cs : List (List Nf)) (b : Nat) (h : b < cs.length) : (cs.map List.length).getD b 0 = cs[b].length := by simp [List.getD_eq_getElem?_getD, h]
theorem Inv.inR {cs : List (List Nf)} {M : Nat} {s : Ps} {p : Option (Nat × Nat)} {F : Int → Prop} (h : Inv cs M s p F) {x : Int × Nat × Nat} (hx : x ∈ s.Q) : InR (shape s.t) x.2 := by
  obtain ⟨h1, h2, _⟩ := h.waits x hx
  rw [h.sh]
  exact ⟨by simpa using h1, by rw [getD_map_len cs _ h1]; exact h2⟩
theorem Inv.folR {cs : List (List Nf)} {M : Nat} {s : Ps} {b0 i0 : Nat} {F : Int → Prop} (h : Inv cs M s (some (b0, i0)) F) (hb : b0 < cs.length) (hi : i0 < cs[b0].length) (hn : getT s.t b0 i0 = true) {r : Int} (hu : cs[b0][i0].use r = true) :
    Inv cs M (folR s r) (some (b0, i0)) (fun k => F k ∨ k = r) ∧ getT (Go.Proofs.Ytdfdgpobohpphaa.folR s r).t b0 i0 = true := by
  have hin : ∀ p ∈ PQ s.Q r, InR (shape s.t) p := fun p hp => h.inR (PQ_mem.1 hp)
  have hg := getT_fold (PQ s.Q r) hin
  have hneed := h.sound b0 i0 hn
  refine ⟨⟨(shape_fold _ _).trans h.sh, fun b i ht => ?_, fun b i h1 h2 h3 => (hg b i).2 (.inl (h.busy b i h1 h2 h3)), fun b i h1 h2 h3 => ?_, fun x hx => h.waits x (dropQ_mem.1 hx).1, fun x hx => ?_, fun b i h1 h2 ht => ?_, fun k hk x hx => ?_, ?_⟩, (hg b0 i0).2 (.inl hn)⟩
  · rcases (hg b i).1 ht with ht | ht
    · exact h.sound b i ht
    · obtain ⟨h1, h2, h3, h4⟩ := h.waits _ (PQ_mem.1 ht)
      exact .used _ _ _ _ (flat_at cs b i h1 h2) h3 hneed (flat_at cs b0 i0 hb hi) (by rw [h4]; exact hu)
  · rcases h.wait b i h1 h2 h3 with h4 | h4
    · exact .inl ((hg b i).2 (.inl h4))
    · by_cases e : cs[b][i].reg = r
      · exact .inl ((hg b i).2 (.inr (PQ_mem.2 (by rw [← e]; exact h4))))
      · exact .inr (dropQ_mem.2 ⟨h4, e⟩)
  · rcases List.mem_append.1 hx with hx | hx
    · exact (hg _ _).2 (.inl (h.todo x hx))
    · exact (hg _ _).2 (.inr hx)
  · rcases (hg b i).1 ht with ht | ht
    · rcases h.done b i h1 h2 ht with h3 | h3 | h3
      · exact .inl (List.mem_append_left _ h3)
      · exact .inr (.inl h3)
      · exact .inr (.inr fun k hk x hx => h3 k hk x (dropQ_mem.1 hx).1)
    · exact .inl (List.mem_append_right _ ht)
  · have h5 := dropQ_mem.1 hx
    rcases hk with hk | hk
    · exact h.part k hk x h5.1
    · rw [hk]; exact h5.2
  · have h1 := PQ_len s.Q r
    have h2 := h.size
    show (s.T ++ PQ s.Q r).length + (dropQ s.Q r).length ≤ M
    rw [List.length_append]; omega
/-- A place is taken from the list, and followed. -/
theorem Inv.pop {cs : List (List Nf)} {M : Nat} {t : List (List Bool)} {Q : List (Int × Nat × Nat)} {T : List (Nat × Nat)} {p : Nat × Nat} (h : Inv cs M ⟨t, Q, T ++ [p]⟩ none (fun _ => False)) : Inv cs M ⟨t, Q, T⟩ (some p) (fun _ => False) ∧ getT t p.1 p.2 = true := by
  refine ⟨⟨h.sh, h.sound, h.busy, h.wait, h.waits, fun x hx => h.todo x (List.mem_append_left _ hx), fun b i h1 h2 ht => ?_, fun r hr => hr.elim, ?_⟩, h.todo p (List.mem_append_right _ List.mem_cons_self)⟩
  · rcases h.done b i h1 h2 ht with h3 | h3 | h3
    · rcases List.mem_append.1 h3 with h3 | h3
      · exact .inl h3
      · exact .inr (.inl (by rw [List.mem_singleton.1 h3]))
    · cases h3
    · exact .inr (.inr h3)
  · have := h.size
    simp only [List.length_append, List.length_cons, List.length_nil] at this ⊢
    omega
theorem Inv.popped {cs : List (List Nf)} {M : Nat} {s : Ps} {b0 i0 : Nat} {F : Int → Prop} (h : Inv cs M s (some (b0, i0)) F) (hF : ∀ (hb : b0 < cs.length) (hi : i0 < cs[b0].length) r, cs[b0][i0].use r = true → F r) : Inv cs M s none (fun _ => False) := by
  refine ⟨h.sh, h.sound, h.busy, h.wait, h.waits, h.todo, fun b i h1 h2 ht => ?_, fun r hr => hr.elim, h.size⟩
  rcases h.done b i h1 h2 ht with h3 | h3 | h3
  · exact .inl h3
  · injection h3 with h3
    injection h3 with h3 h4
    subst h3 h4
    exact .inr (.inr fun r hr => h.part r (hF h1 h2 r hr))
  · exact .inr (.inr h3)
/-- Where nothing waits to be followed, just the needed ones are marked. -/
theorem Inv.ends {cs : List (List Nf)} {M : Nat} {t : List (List Bool)} {Q : List (Int × Nat × Nat)} (h : Inv cs M ⟨t, Q, []⟩ none (fun _ => False)) (b i : Nat) (hb : b < cs.length) (hi : i < cs[b].length) : getT t b i = ndF cs.flatten (base cs b + i) := by
  have key : ∀ k, Need cs.flatten k → ∀ b i (hb : b < cs.length) (hi : i < cs[b].length), base cs b + i = k → getT t b i = true := by
    intro k hk
    induction hk with
    | busy k x e hid =>
      intro b i hb hi e2
      have := flat_at cs b i hb hi
      rw [e2, e] at this
      injection this with this
      exact h.busy b i hb hi (by rw [← this]; exact hid)
    | used k j x y e hr hj ey hu ih =>
      intro b i hb hi e2
      have h1 := flat_at cs b i hb hi
      rw [e2, e] at h1
      injection h1 with h1
      subst h1
      rcases h.wait b i hb hi hr with h2 | h2
      · exact h2
      · obtain ⟨b', i', hb', hi', e3⟩ := base_of cs j hj.lt
        have h3 := flat_at cs b' i' hb' hi'
        rw [e3, ey] at h3
        injection h3 with h3
        subst h3
        rcases h.done b' i' hb' hi' (ih b' i' hb' hi' e3) with h4 | h4 | h4
        · exact absurd h4 (by simp)
        · cases h4
        · exact absurd rfl (h4 _ hu _ h2)
  by_cases c : Need cs.flatten (base cs b + i)
  · rw [ndF_iff.2 c]; exact key _ c b i hb hi rfl
  · rw [ndF_not.2 c]
    cases e : getT t b i with
    | false => rfl
    | true => exact absurd (h.sound b i e) c
theorem table_ext {t u : List (List Bool)} (hs : shape t = shape u) (hg : ∀ b i, InR (shape t) (b, i) → getT t b i = getT u b i) : t = u := by
  have hl : t.length = u.length := by have := congrArg List.length hs; simpa [shape] using this
  apply List.ext_getElem hl
  intro b h1 h2
  have e1 : (shape t)[b]'(by simpa [shape] using h1) = (shape u)[b]'(by simpa [shape] using h2) := by simp only [hs]
  have hl2 : t[b].length = u[b].length := by simpa [shape] using e1
  apply List.ext_getElem hl2
  intro i h3 h4
  have := hg b i ⟨by simpa [shape] using h1, by simpa [shape, List.getD_eq_getElem?_getD, h1] using h3⟩
  unfold getT at this
  simpa [List.getD_eq_getElem?_getD, h1, h2, h3, h4] using this
/-- The table that is asked. -/
noncomputable def ndT (cs : List (List Nf)) : List (List Bool) := (List.range cs.length).map fun b => (List.range ((cs.map List.length).getD b 0)).map fun i => ndF cs.flatten (base cs b + i)
theorem ndT_shape (cs : List (List Nf)) : shape (ndT cs) = cs.map List.length := by
  unfold shape ndT
  apply List.ext_getElem
  · simp
  · intro b h1 h2
    have h3 : b < cs.length := by simpa using h2
    simp [List.getD_eq_getElem?_getD, h3]
theorem ndT_get (cs : List (List Nf)) (b i : Nat) (hb : b < cs.length) (hi : i < cs[b].length) : getT (ndT cs) b i = ndF cs.flatten (base cs b + i) := by
  unfold getT ndT
  simp [List.getD_eq_getElem?_getD, hb, hi]
theorem Inv.table {cs : List (List Nf)} {M : Nat} {t : List (List Bool)} {Q : List (Int × Nat × Nat)} (h : Inv cs M ⟨t, Q, []⟩ none (fun _ => False)) : t = ndT cs := by
  refine table_ext (h.sh.trans (ndT_shape cs).symm) fun b i hin => ?_
  have hs := h.sh
  simp only at hs
  rw [hs] at hin
  have hb : b < cs.length := by have := hin.1; simpa using this
  have hi : i < cs[b].length := by have := hin.2; simp only at this; rwa [getD_map_len cs b hb] at this
  rw [h.ends b i hb hi, ndT_get cs b i hb hi]
end Go.Proofs.Ytdfdgpobohpphaa
