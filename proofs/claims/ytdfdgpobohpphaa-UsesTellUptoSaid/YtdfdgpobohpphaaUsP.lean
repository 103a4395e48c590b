/- Which instructions are needed, as mathematics; and what is left of a list. -/
import Derived.Test.YtdfdgpobohpphaaBaseB
namespace Go.Proofs.Ytdfdgpobohpphaa
set_option linter.unusedVariables false
set_option linter.unusedSimpArgs false

/-- What of an instruction counts. -/
structure Nf where
  idle : Bool
  res : Bool
  reg : Int
  use : Int → Bool
inductive Need (C : List Nf) : Nat → Prop
  | busy (k : Nat) (x : Nf) : C[k]? = some x → x.idle = false → Need C k
  | used (k j : Nat) (x y : Nf) : C[k]? = some x → x.res = true → Need C j → C[j]? = some y → y.use x.reg = true → Need C k
theorem Need.lt {C : List Nf} {k : Nat} (h : Need C k) : k < C.length := by
  cases h with
  | busy _ x e _ => exact (List.getElem?_eq_some_iff.1 e).1
  | used _ j x y e _ _ _ _ => exact (List.getElem?_eq_some_iff.1 e).1
noncomputable def ndF (C : List Nf) (k : Nat) : Bool := @decide (Need C k) (Classical.propDecidable _)
theorem ndF_iff {C : List Nf} {k : Nat} : ndF C k = true ↔ Need C k := by unfold ndF; exact @decide_eq_true_iff _ (Classical.propDecidable _)
theorem ndF_not {C : List Nf} {k : Nat} : ndF C k = false ↔ ¬ Need C k := by unfold ndF; exact @decide_eq_false_iff_not _ (Classical.propDecidable _)
/-- What closes a set of needed ones from below is all of them. -/
theorem need_closed {C : List Nf} (f : Nat → Bool) (h1 : ∀ k x, C[k]? = some x → x.idle = false → f k = true)
    (h2 : ∀ k j x y, C[k]? = some x → x.res = true → f j = true → C[j]? = some y → y.use x.reg = true → f k = true) : ∀ {k}, Need C k → f k = true := by
  intro k h
  induction h with
  | busy k x e hi => exact h1 k x e hi
  | used k j x y e hr _ ey hu ih => exact h2 k j x y e hr ih ey hu

/-! Elements of a list that are chosen by their place. -/
def sel {α : Type} (f : Nat → Bool) : Nat → List α → List α
  | _, [] => []
  | k, x :: xs => if f k then x :: sel f (k + 1) xs else sel f (k + 1) xs
theorem sel_app {α : Type} (f : Nat → Bool) : ∀ (xs ys : List α) (k : Nat), sel f k (xs ++ ys) = sel f k xs ++ sel f (k + xs.length) ys
  | [], ys, k => by simp [sel]
  | x :: xs, ys, k => by
    have ih := sel_app f xs ys (k + 1)
    have e : k + 1 + xs.length = k + (x :: xs).length := by simp; omega
    rw [e] at ih
    show (if f k then x :: sel f (k + 1) (xs ++ ys) else sel f (k + 1) (xs ++ ys)) = (if f k then x :: sel f (k + 1) xs else sel f (k + 1) xs) ++ _
    rw [ih]
    split <;> simp
theorem sel_snoc {α : Type} (f : Nat → Bool) (xs : List α) (x : α) (k : Nat) : sel f k (xs ++ [x]) = sel f k xs ++ if f (k + xs.length) then [x] else [] := by
  rw [sel_app]; rfl
theorem sel_map {α β : Type} (g : α → β) (f : Nat → Bool) : ∀ (xs : List α) (k : Nat), sel f k (xs.map g) = (sel f k xs).map g
  | [], k => rfl
  | x :: xs, k => by
    show (if f k then g x :: sel f (k + 1) (xs.map g) else sel f (k + 1) (xs.map g)) = List.map g (if f k then x :: sel f (k + 1) xs else sel f (k + 1) xs)
    rw [sel_map g f xs (k + 1)]
    split <;> simp
theorem sel_len {α : Type} (f : Nat → Bool) : ∀ (xs : List α) (k : Nat), (sel f k xs).length ≤ xs.length
  | [], k => Nat.le_refl _
  | x :: xs, k => by
    have ih := sel_len f xs (k + 1)
    show (if f k then x :: sel f (k + 1) xs else sel f (k + 1) xs).length ≤ _
    split
    · simp; omega
    · simp; omega
theorem sel_sub {α : Type} (f : Nat → Bool) : ∀ (xs : List α) (k : Nat) (x : α), x ∈ sel f k xs → x ∈ xs
  | [], k, x, h => h
  | y :: xs, k, x, h => by
    have h : x ∈ (if f k then y :: sel f (k + 1) xs else sel f (k + 1) xs) := h
    split at h
    · rcases List.mem_cons.1 h with rfl | h
      · exact List.mem_cons_self
      · exact List.mem_cons_of_mem _ (sel_sub f xs _ x h)
    · exact List.mem_cons_of_mem _ (sel_sub f xs _ x h)
theorem sel_all {α : Type} (f : Nat → Bool) : ∀ (xs : List α) (k : Nat), (∀ i, i < xs.length → f (k + i) = true) → sel f k xs = xs
  | [], k, _ => rfl
  | x :: xs, k, h => by
    show (if f k then x :: sel f (k + 1) xs else sel f (k + 1) xs) = _
    rw [if_pos (by simpa using h 0 (by simp)), sel_all f xs (k + 1) (fun i hi => by rw [show k + 1 + i = k + (i + 1) by omega]; exact h (i + 1) (by simpa using hi))]
/-- Where an element that stays comes to stand. -/
def rank {α : Type} (f : Nat → Bool) (xs : List α) (i : Nat) : Nat := (sel f 0 (xs.take i)).length
theorem rank_at {α : Type} (f : Nat → Bool) (xs : List α) (i : Nat) (x : α) (h : xs[i]? = some x) (hf : f i = true) : (sel f 0 xs)[rank f xs i]? = some x := by
  obtain ⟨hi, rfl⟩ := List.getElem?_eq_some_iff.1 h
  have e : xs = xs.take i ++ ([xs[i]] ++ xs.drop (i + 1)) := by
    rw [List.singleton_append, List.getElem_cons_drop hi, List.take_append_drop]
  have e2 : sel f 0 xs = sel f 0 (xs.take i) ++ (xs[i] :: sel f (i + 1) (xs.drop (i + 1))) := by
    conv => lhs; rw [e]
    rw [sel_app, Nat.zero_add, List.length_take, Nat.min_eq_left (Nat.le_of_lt hi)]
    show _ ++ (if f i then xs[i] :: sel f (i + 1) (xs.drop (i + 1)) else _) = _
    rw [if_pos hf]
  unfold rank
  rw [e2, List.getElem?_append_right (Nat.le_refl _), Nat.sub_self]
  rfl
theorem rank_of {α : Type} (f : Nat → Bool) : ∀ (xs : List α) (k j : Nat) (x : α), (sel f k xs)[j]? = some x → ∃ i, xs[i]? = some x ∧ f (k + i) = true ∧ (sel f k (xs.take i)).length = j
  | [], k, j, x, h => by simp [sel] at h
  | y :: xs, k, j, x, h => by
    have h : (if f k then y :: sel f (k + 1) xs else sel f (k + 1) xs)[j]? = some x := h
    have hs : ∀ i, sel f k ((y :: xs).take (i + 1)) = if f k then y :: sel f (k + 1) (xs.take i) else sel f (k + 1) (xs.take i) := fun i => rfl
    by_cases hk : f k = true
    · rw [if_pos hk] at h
      cases j with
      | zero =>
        simp only [List.getElem?_cons_zero, Option.some.injEq] at h
        exact ⟨0, by simpa using h, by simpa using hk, by simp [sel]⟩
      | succ j =>
        simp only [List.getElem?_cons_succ] at h
        obtain ⟨i, h1, h2, h3⟩ := rank_of f xs (k + 1) j x h
        exact ⟨i + 1, by simpa using h1, by rw [show k + (i + 1) = k + 1 + i by omega]; exact h2, by rw [hs, if_pos hk, List.length_cons, h3]⟩
    · rw [if_neg hk] at h
      obtain ⟨i, h1, h2, h3⟩ := rank_of f xs (k + 1) j x h
      exact ⟨i + 1, by simpa using h1, by rw [show k + (i + 1) = k + 1 + i by omega]; exact h2, by rw [hs, if_neg hk, h3]⟩
/-- All that is left is needed there. -/
theorem need_rank {C : List Nf} {k : Nat} (h : Need C k) : Need (sel (ndF C) 0 C) (rank (ndF C) C k) := by
  induction h with
  | busy k x e hi => exact .busy _ x (rank_at _ _ _ _ e (ndF_iff.2 (.busy k x e hi))) hi
  | used k j x y e hr hj ey hu ih => exact .used _ _ x y (rank_at _ _ _ _ e (ndF_iff.2 (.used k j x y e hr hj ey hu))) hr ih (rank_at _ _ _ _ ey (ndF_iff.2 hj)) hu
theorem need_left {C : List Nf} {k : Nat} (h : k < (sel (ndF C) 0 C).length) : Need (sel (ndF C) 0 C) k := by
  obtain ⟨i, h1, h2, h3⟩ := rank_of (ndF C) C 0 k _ (List.getElem?_eq_getElem h)
  rw [Nat.zero_add] at h2
  have := need_rank (ndF_iff.1 h2)
  unfold rank at this
  rwa [h3] at this
/-- A register that is made, and used by what is left, is made there. -/
theorem made_left {C : List Nf} {k : Nat} {y : Nf} (hy : y ∈ sel (ndF C) 0 C) {r : Int} (hu : y.use r = true) {x : Nf} (hx : C[k]? = some x) (hres : x.res = true) (hr : x.reg = r) : x ∈ sel (ndF C) 0 C := by
  obtain ⟨j, hj, e⟩ := List.mem_iff_getElem.1 hy
  obtain ⟨i, h1, h2, h3⟩ := rank_of (ndF C) C 0 j y (by rw [List.getElem?_eq_getElem hj, e])
  rw [Nat.zero_add] at h2
  have hn : Need C k := .used k i x y hx hres (ndF_iff.1 h2) h1 (by rw [hr]; exact hu)
  exact List.mem_of_getElem? (rank_at _ _ _ _ hx (ndF_iff.2 hn))

/-! By blocks. -/
def cut {α : Type} (f : Nat → Bool) : Nat → List (List α) → List (List α)
  | _, [] => []
  | k, c :: cs => sel f k c :: cut f (k + c.length) cs
theorem cut_len {α : Type} (f : Nat → Bool) : ∀ (cs : List (List α)) (k : Nat), (cut f k cs).length = cs.length
  | [], k => rfl
  | c :: cs, k => by show (sel f k c :: cut f (k + c.length) cs).length = _; rw [List.length_cons, cut_len f cs, List.length_cons]
theorem cut_flat {α : Type} (f : Nat → Bool) : ∀ (cs : List (List α)) (k : Nat), (cut f k cs).flatten = sel f k cs.flatten
  | [], k => rfl
  | c :: cs, k => by
    show (sel f k c :: cut f (k + c.length) cs).flatten = _
    rw [List.flatten_cons, cut_flat f cs, List.flatten_cons, sel_app]
theorem cut_map {α β : Type} (g : α → β) (f : Nat → Bool) : ∀ (cs : List (List α)) (k : Nat), cut f k (cs.map (·.map g)) = (cut f k cs).map (·.map g)
  | [], k => rfl
  | c :: cs, k => by
    show sel f k (c.map g) :: cut f (k + (c.map g).length) (cs.map (·.map g)) = (sel f k c).map g :: _
    rw [sel_map, List.length_map, cut_map g f cs]
theorem cut_all {α : Type} (f : Nat → Bool) : ∀ (cs : List (List α)) (k : Nat), (∀ i, i < cs.flatten.length → f (k + i) = true) → cut f k cs = cs
  | [], k, _ => rfl
  | c :: cs, k, h => by
    show sel f k c :: cut f (k + c.length) cs = _
    rw [sel_all f c k (fun i hi => h i (by rw [List.flatten_cons, List.length_append]; omega)), cut_all f cs (k + c.length) (fun i hi => by
      rw [Nat.add_assoc]; exact h (c.length + i) (by rw [List.flatten_cons, List.length_append]; omega))]
/-- The place of a block's first instruction in the row of all. -/
def base {α : Type} (cs : List (List α)) (b : Nat) : Nat := (cs.take b).flatten.length
theorem base_zero {α : Type} (cs : List (List α)) : base cs 0 = 0 := by simp [base]
theorem base_succ {α : Type} (cs : List (List α)) (b : Nat) (h : b < cs.length) : base cs (b + 1) = base cs b + cs[b].length := by
  unfold base
  rw [List.take_succ_eq_append_getElem h, List.flatten_append, List.length_append]
  simp
theorem base_end {α : Type} (cs : List (List α)) : base cs cs.length = cs.flatten.length := by unfold base; rw [List.take_length]
theorem base_le {α : Type} (cs : List (List α)) (b k : Nat) (h : b < cs.length) (hk : k < cs[b].length) : base cs b + k < cs.flatten.length := by
  have e : cs = cs.take b ++ ([cs[b]] ++ cs.drop (b + 1)) := by rw [List.singleton_append, List.getElem_cons_drop h, List.take_append_drop]
  have e2 : cs.flatten.length = base cs b + (cs[b].length + (cs.drop (b + 1)).flatten.length) := by
    have := congrArg (fun l => l.flatten.length) e
    rw [List.flatten_append, List.flatten_append, List.length_append, List.length_append] at this
    rw [this]
    simp only [List.flatten_cons, List.flatten_nil, List.append_nil]
    rfl
  omega
theorem flat_at {α : Type} (cs : List (List α)) (b k : Nat) (h : b < cs.length) (hk : k < cs[b].length) : cs.flatten[base cs b + k]? = some cs[b][k] := by
  have e : cs = cs.take b ++ ([cs[b]] ++ cs.drop (b + 1)) := by rw [List.singleton_append, List.getElem_cons_drop h, List.take_append_drop]
  have e2 : cs.flatten = (cs.take b).flatten ++ (cs[b] ++ (cs.drop (b + 1)).flatten) := by
    have := congrArg List.flatten e
    rw [List.flatten_append, List.flatten_append] at this
    simpa only [List.flatten_cons, List.flatten_nil, List.append_nil] using this
  rw [e2, List.getElem?_append_right (by unfold base; omega)]
  unfold base
  rw [Nat.add_sub_cancel_left, List.getElem?_append_left hk, List.getElem?_eq_getElem hk]
theorem base_of {α : Type} (cs : List (List α)) (i : Nat) (hi : i < cs.flatten.length) : ∃ (b k : Nat) (h : b < cs.length) (hk : k < cs[b].length), base cs b + k = i := by
  have key : ∀ b, b ≤ cs.length → i < base cs b → ∃ (b k : Nat) (h : b < cs.length) (hk : k < cs[b].length), base cs b + k = i := by
    intro b
    induction b with
    | zero => intro _ hi; rw [base_zero] at hi; omega
    | succ b ih =>
      intro hb h2
      by_cases h3 : i < base cs b
      · exact ih (by omega) h3
      · rw [base_succ cs b hb] at h2
        exact ⟨b, i - base cs b, hb, by omega, by omega⟩
  exact key cs.length (Nat.le_refl _) (by rw [base_end]; exact hi)
theorem base_inj {α : Type} (cs : List (List α)) {b k b' k' : Nat} (h : b < cs.length) (hk : k < cs[b].length) (h' : b' < cs.length) (hk' : k' < cs[b'].length) (e : base cs b + k = base cs b' + k') : b = b' ∧ k = k' := by
  have mono : ∀ n b, b + n ≤ cs.length → base cs b ≤ base cs (b + n) := by
    intro n
    induction n with
    | zero => intro b _; exact Nat.le_refl _
    | succ n ih => intro b hb; have := ih b (by omega); have h2 := base_succ cs (b + n) (by omega); rw [Nat.add_assoc] at h2; omega
  rcases Nat.lt_trichotomy b b' with c | c | c
  · have h1 := mono (b' - (b + 1)) (b + 1) (by omega)
    rw [base_succ cs b h, show b + 1 + (b' - (b + 1)) = b' by omega] at h1
    omega
  · subst c; exact ⟨rfl, by omega⟩
  · have h1 := mono (b - (b' + 1)) (b' + 1) (by omega)
    rw [base_succ cs b' h', show b' + 1 + (b - (b' + 1)) = b by omega] at h1
    omega
theorem cut_get {α : Type} (f : Nat → Bool) : ∀ (cs : List (List α)) (k b : Nat) (h : b < cs.length), (cut f k cs)[b]? = some (sel f (k + base cs b) cs[b])
  | [], k, b, h => absurd h (Nat.not_lt_zero _)
  | c :: cs, k, 0, h => by rw [base_zero]; rfl
  | c :: cs, k, b + 1, h => by
    have ih := cut_get f cs (k + c.length) b (by simpa using h)
    have e : base (c :: cs) (b + 1) = c.length + base cs b := by unfold base; simp
    rw [e, ← Nat.add_assoc]
    exact ih
end Go.Proofs.Ytdfdgpobohpphaa
