/- Package uses: what stands before the search goes on; a list's last place taken. -/
import Derived.Test.YtdfdgpobohpphaaUsE
namespace Go.Proofs.Ytdfdgpobohpphaa
open Go.RowKit Go.Maps
set_option linter.unusedVariables false
set_option linter.unusedSimpArgs false
set_option maxRecDepth 100000
set_option maxHeartbeats 2000000

def rowB (c : List Nf) (b i : Nat) : List (Nat × Nat) := (List.range i).filterMap fun j => match c[j]? with | some x => if x.idle then none else some (b, j) | none => none
def iniB (cs : List (List Nf)) (b : Nat) : List (Nat × Nat) := (List.range b).flatMap fun b' => rowB (cs.getD b' []) b' (cs.getD b' []).length
theorem rowB_zero (c : List Nf) (b : Nat) : rowB c b 0 = [] := rfl
theorem rowB_succ (c : List Nf) (b i : Nat) (h : i < c.length) : rowB c b (i + 1) = rowB c b i ++ if c[i].idle then [] else [(b, i)] := by
  unfold rowB
  rw [List.range_succ, List.filterMap_append]
  congr 1
  simp only [List.filterMap_cons, List.filterMap_nil, List.getElem?_eq_getElem h]
  split <;> simp_all
theorem iniB_succ (cs : List (List Nf)) (b : Nat) (h : b < cs.length) : iniB cs (b + 1) = iniB cs b ++ rowB cs[b] b cs[b].length := by
  unfold iniB
  rw [List.range_succ, List.flatMap_append]
  simp [List.getD_eq_getElem?_getD, h]
theorem rowB_mem {c : List Nf} {b i : Nat} {p : Nat × Nat} : p ∈ rowB c b i ↔ p.1 = b ∧ p.2 < i ∧ ∃ h : p.2 < c.length, c[p.2].idle = false := by
  obtain ⟨p1, p2⟩ := p
  unfold rowB
  simp only [List.mem_filterMap, List.mem_range]
  constructor
  · rintro ⟨j, hj, h⟩
    split at h
    · rename_i x hx
      obtain ⟨hl, rfl⟩ := List.getElem?_eq_some_iff.1 hx
      split at h
      · cases h
      · rename_i hid
        injection h with h
        injection h with h1 h2
        subst h1 h2
        exact ⟨rfl, hj, hl, by simpa using hid⟩
    · cases h
  · rintro ⟨rfl, hi, hl, hid⟩
    refine ⟨p2, hi, ?_⟩
    rw [List.getElem?_eq_getElem hl]
    simp only at hid ⊢
    rw [hid]; rfl
theorem rowQ_mem {c : List Nf} {b i : Nat} {x : Int × Nat × Nat} : x ∈ rowQ c b i ↔ x.2.1 = b ∧ x.2.2 < i ∧ ∃ h : x.2.2 < c.length, c[x.2.2].idle = true ∧ c[x.2.2].res = true ∧ c[x.2.2].reg = x.1 := by
  obtain ⟨r, p1, p2⟩ := x
  unfold rowQ
  simp only [List.mem_filterMap, List.mem_range]
  constructor
  · rintro ⟨j, hj, h⟩
    split at h
    · rename_i x hx
      obtain ⟨hl, rfl⟩ := List.getElem?_eq_some_iff.1 hx
      split at h
      · rename_i hid
        injection h with h
        injection h with h1 h2
        injection h2 with h2 h3
        subst h1 h2 h3
        simp only [Bool.and_eq_true] at hid
        exact ⟨rfl, hj, hl, hid.1, hid.2, rfl⟩
      · cases h
    · cases h
  · rintro ⟨rfl, hi, hl, h1, h2, h3⟩
    refine ⟨p2, hi, ?_⟩
    rw [List.getElem?_eq_getElem hl]
    simp only at h1 h2 h3 ⊢
    rw [h1, h2, h3]; rfl
theorem iniB_mem {cs : List (List Nf)} {p : Nat × Nat} : p ∈ iniB cs cs.length ↔ ∃ (h : p.1 < cs.length) (hi : p.2 < cs[p.1].length), cs[p.1][p.2].idle = false := by
  unfold iniB
  simp only [List.mem_flatMap, List.mem_range, rowB_mem]
  constructor
  · rintro ⟨b, hb, rfl, h2, h3, h4⟩
    have e : cs.getD p.1 [] = cs[p.1] := by simp [List.getD_eq_getElem?_getD, hb]
    refine ⟨hb, by rwa [e] at h2, ?_⟩
    simp only [e] at h4
    exact h4
  · rintro ⟨hb, hi, h⟩
    have e : cs.getD p.1 [] = cs[p.1] := by simp [List.getD_eq_getElem?_getD, hb]
    refine ⟨p.1, hb, rfl, by rw [e]; exact hi, by rw [e]; exact hi, ?_⟩
    simp only [e]
    exact h
theorem iniQ_mem {cs : List (List Nf)} {x : Int × Nat × Nat} : x ∈ iniQ cs cs.length ↔ ∃ (h : x.2.1 < cs.length) (hi : x.2.2 < cs[x.2.1].length), cs[x.2.1][x.2.2].idle = true ∧ cs[x.2.1][x.2.2].res = true ∧ cs[x.2.1][x.2.2].reg = x.1 := by
  unfold iniQ
  simp only [List.mem_flatMap, List.mem_range, rowQ_mem]
  constructor
  · rintro ⟨b, hb, rfl, h2, h3, h4⟩
    have e : cs.getD x.2.1 [] = cs[x.2.1] := by simp [List.getD_eq_getElem?_getD, hb]
    refine ⟨hb, by rwa [e] at h2, ?_⟩
    simp only [e] at h4
    exact h4
  · rintro ⟨hb, hi, h⟩
    have e : cs.getD x.2.1 [] = cs[x.2.1] := by simp [List.getD_eq_getElem?_getD, hb]
    refine ⟨x.2.1, hb, rfl, by rw [e]; exact hi, by rw [e]; exact hi, ?_⟩
    simp only [e]
    exact h
theorem row_both (c : List Nf) (b : Nat) : ∀ i, i ≤ c.length → (rowB c b i).length + (rowQ c b i).length ≤ i
  | 0, _ => Nat.le_refl _
  | i + 1, h => by
    have ih := row_both c b i (by omega)
    rw [rowB_succ c b i h, rowQ_succ c b i h, List.length_append, List.length_append]
    cases e : c[i].idle
    · simp only [Bool.false_and, Bool.false_eq_true, ↓reduceIte, List.length_cons, List.length_nil]; omega
    · simp only [Bool.true_and, ↓reduceIte, List.length_nil]
      split
      · simp only [List.length_cons, List.length_nil]; omega
      · simp only [List.length_nil]; omega
theorem ini_both (cs : List (List Nf)) : ∀ b, b ≤ cs.length → (iniB cs b).length + (iniQ cs b).length ≤ base cs b
  | 0, _ => Nat.zero_le _
  | b + 1, h => by
    rw [iniB_succ cs b h, iniQ_succ cs b h, List.length_append, List.length_append, base_succ cs b h]
    have h1 := ini_both cs b (by omega)
    have h2 := row_both cs[b] b cs[b].length (Nat.le_refl _)
    omega
theorem iniT_shape (cs : List (List Nf)) : shape (iniT cs cs.length) = cs.map List.length := by
  unfold shape iniT
  rw [List.take_length, List.map_map]
  apply List.map_congr_left
  intro c _
  simp
theorem iniT_get (cs : List (List Nf)) (b i : Nat) : getT (iniT cs cs.length) b i = false := by
  unfold getT iniT
  rw [List.take_length, List.getD_eq_getElem?_getD (l := List.map (fun c : List Nf => List.replicate c.length false) cs), List.getElem?_map]
  cases h : cs[b]? with
  | none => simp
  | some c =>
    simp only [Option.map_some, Option.getD_some, List.getD_eq_getElem?_getD, List.getElem?_replicate]
    split <;> rfl
theorem Inv.start (cs : List (List Nf)) : Inv cs cs.flatten.length ⟨(iniB cs cs.length).foldl setT (iniT cs cs.length), iniQ cs cs.length, iniB cs cs.length⟩ none (fun _ => False) := by
  have hin : ∀ p ∈ iniB cs cs.length, InR (shape (iniT cs cs.length)) p := fun p hp => by
    obtain ⟨h, hi, _⟩ := iniB_mem.1 hp
    rw [iniT_shape]
    exact ⟨by simpa using h, by rw [getD_map_len cs _ h]; exact hi⟩
  have hg := getT_fold (iniB cs cs.length) hin
  refine ⟨(shape_fold _ _).trans (iniT_shape cs), fun b i ht => ?_, fun b i h hi hid => (hg b i).2 (.inr (iniB_mem.2 ⟨h, hi, hid⟩)), fun b i h hi hr => ?_, fun x hx => ?_, fun x hx => (hg _ _).2 (.inr hx), fun b i h hi ht => ?_, fun r hr => hr.elim, ?_⟩
  · rcases (hg b i).1 ht with ht | ht
    · rw [iniT_get] at ht; cases ht
    · obtain ⟨h, hi, hid⟩ := iniB_mem.1 ht
      exact .busy _ _ (flat_at cs b i h hi) hid
  · cases hid : cs[b][i].idle with
    | false => exact .inl ((hg b i).2 (.inr (iniB_mem.2 ⟨h, hi, hid⟩)))
    | true => exact .inr (iniQ_mem.2 ⟨h, hi, hid, hr, rfl⟩)
  · obtain ⟨h, hi, h1, h2, h3⟩ := iniQ_mem.1 hx
    exact ⟨h, hi, h2, h3⟩
  · rcases (hg b i).1 ht with ht | ht
    · rw [iniT_get] at ht; cases ht
    · exact .inl ht
  · have := ini_both cs cs.length (Nat.le_refl _)
    rw [base_end] at this
    exact this
/-- All operands of a place are followed. -/
theorem Inv.folds {cs : List (List Nf)} {M : Nat} {b0 i0 : Nat} (hb : b0 < cs.length) (hi : i0 < cs[b0].length) : ∀ (l : List Arg) {s : Ps} {F : Int → Prop}, Inv cs M s (some (b0, i0)) F → getT s.t b0 i0 = true → (∀ v ∈ l, v.kind = 1 → cs[b0][i0].use v.n = true) →
    Inv cs M (l.foldl folV s) (some (b0, i0)) (fun k => F k ∨ ∃ v ∈ l, v.kind = 1 ∧ v.n = k)
  | [], s, F, h, _, _ => by
    refine ⟨h.sh, h.sound, h.busy, h.wait, h.waits, h.todo, h.done, fun r hr => ?_, h.size⟩
    rcases hr with hr | ⟨v, hv, _⟩
    · exact h.part r hr
    · cases hv
  | v :: l, s, F, h, hn, hu => by
    rw [List.foldl_cons]
    by_cases hk : v.kind = 1
    · have e : folV s v = Go.Proofs.Ytdfdgpobohpphaa.folR s v.n := by unfold folV; rw [if_pos hk]
      rw [e]
      obtain ⟨h1, h2⟩ := h.folR hb hi hn (hu v List.mem_cons_self hk)
      have h3 := Inv.folds hb hi l h1 h2 (fun w hw => hu w (List.mem_cons_of_mem _ hw))
      refine ⟨h3.sh, h3.sound, h3.busy, h3.wait, h3.waits, h3.todo, h3.done, fun r hr => h3.part r ?_, h3.size⟩
      rcases hr with hr | ⟨w, hw, h4, h5⟩
      · exact .inl (.inl hr)
      · rcases List.mem_cons.1 hw with rfl | hw
        · exact .inl (.inr h5.symm)
        · exact .inr ⟨w, hw, h4, h5⟩
    · have e : folV s v = s := by unfold folV; rw [if_neg hk]
      rw [e]
      have h3 := Inv.folds hb hi l h hn (fun w hw => hu w (List.mem_cons_of_mem _ hw))
      refine ⟨h3.sh, h3.sound, h3.busy, h3.wait, h3.waits, h3.todo, h3.done, fun r hr => h3.part r ?_, h3.size⟩
      rcases hr with hr | ⟨w, hw, h4, h5⟩
      · exact .inl hr
      · rcases List.mem_cons.1 hw with rfl | hw
        · exact absurd h4 hk
        · exact .inr ⟨w, hw, h4, h5⟩
/-- One place is taken, and what it uses is followed. -/
theorem Inv.round {cs : List (List Nf)} {M : Nat} {t : List (List Bool)} {Q : List (Int × Nat × Nat)} {T : List (Nat × Nat)} {b i : Nat} (h : Inv cs M ⟨t, Q, T ++ [(b, i)]⟩ none (fun _ => False)) (args : List Arg) (hu : ∀ (hb : b < cs.length) (hi : i < cs[b].length), ∀ r, cs[b][i].use r = args.any (isU r)) :
    Inv cs M (args.foldl folV ⟨t, Q, T⟩) none (fun _ => False) ∧ ∃ hb : b < cs.length, i < cs[b].length := by
  obtain ⟨h1, h2⟩ := h.pop
  have hin := getT_lt h2
  rw [h1.sh] at hin
  have hb : b < cs.length := by have := hin.1; simpa using this
  have hi : i < cs[b].length := by have := hin.2; simp only at this; rwa [getD_map_len cs b hb] at this
  have hu := hu hb hi
  have h3 := Inv.folds hb hi args h1 h2 (fun v hv hk => by
    rw [hu, List.any_eq_true]
    exact ⟨v, hv, by unfold isU; rw [hk]; simp⟩)
  refine ⟨h3.popped (fun hb hi r hr => ?_), hb, hi⟩
  rw [hu, List.any_eq_true] at hr
  obtain ⟨v, hv, hr⟩ := hr
  unfold isU at hr
  simp only [Bool.and_eq_true, beq_iff_eq] at hr
  exact .inr ⟨v, hv, hr.1, hr.2⟩
/-- The list without its last place. -/
theorem row_less {α : Type} {B ty m : Nat} {cel : α → List Value} {p : Option Addr} {c : Nat} {xs : List α} {x : α} {w : World} (hm : ∀ x, (cel x).length = m) (h : rowP B ty m cel p (xs ++ [x]).length c (xs ++ [x]) w) : rowP B ty m cel p xs.length c xs w := by
  obtain ⟨h1, h2, h3⟩ := h
  refine ⟨rfl, by rw [flat_len cel m hm], ?_⟩
  rcases h3 with ⟨_, h0⟩ | ⟨g, cap, cur, hv, hB, hg, k1, k2, k3, k4⟩
  · simp at h0
  · injection hv with e1 e2 e3
    subst e1 e3
    refine .inr ⟨g, c, cur, rfl, hB, hg, ?_, k2, k3, ?_⟩
    · rw [List.length_append] at k1; simp at k1; omega
    · have e : cur.toList.take (xs.length * m) = (cur.toList.take ((xs ++ [x]).length * m)).take (xs.length * m) := by
        rw [List.take_take, Nat.min_eq_left]
        rw [List.length_append, Nat.add_mul]; omega
      rw [e, k4, List.flatMap_append]
      exact List.take_left' (flat_len cel m hm xs)
end Go.Proofs.Ytdfdgpobohpphaa
