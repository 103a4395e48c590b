/- Where pieces stand; texts one behind the other, with a remark, with blanks ahead. No program in it. -/
import Derived.Test.YtjomihlnjobndaaGreatDoorLexNM
namespace Go.Proofs.YtjomihlnjobndaaGreatDoor
set_option linter.unusedVariables false
set_option linter.unusedSimpArgs false

theorem word_bytes {c : UInt8} (h : isOfWord c = true) : c.toNat ≠ 10 ∧ c.toNat ≠ 35 := by
  unfold isOfWord isLetter isDigit at h; simp at h; omega
theorem digit_word {c : UInt8} (h : isDigit c = true) : isOfWord c = true := by unfold isOfWord; simp [h]
theorem letter_word {c : UInt8} (h : isLetter c = true) : isOfWord c = true := by unfold isOfWord; simp [h]
theorem not_digit {c : UInt8} (h : isOfWord c = false) : isDigit c = false := by unfold isOfWord at h; simp at h; exact h.2
theorem not_letter {c : UInt8} (h : isOfWord c = false) : isLetter c = false := by unfold isOfWord at h; simp at h; exact h.1
theorem nl_not {c : UInt8} (h : c.toNat = 10) : isBlank c = false ∧ isOfLine c = false ∧ isOfWord c = false := by
  unfold isBlank isOfLine isOfWord isLetter isDigit; simp [h]
theorem hash_not {c : UInt8} (h : c.toNat = 35) : isBlank c = false ∧ isOfLine c = true ∧ isOfWord c = false := by
  unfold isBlank isOfLine isOfWord isLetter isDigit; simp [h]
theorem blank_not {c : UInt8} (h : isBlank c = true) : c.toNat ≠ 10 ∧ c.toNat ≠ 35 := by
  unfold isBlank at h; simp at h; omega

/-! ### A byte that belongs to no word ends the first piece -/
theorem wordSize_stop (l : List UInt8) (x : UInt8) (t : List UInt8) (hx : isOfWord x = false) : wordSize (l ++ x :: t) = wordSize l := by
  cases l with
  | nil => simp [wordSize, not_letter hx]
  | cons c r =>
    rw [List.cons_append]
    simp only [wordSize]
    split
    · rw [← List.cons_append, runOf_stop _ _ _ _ hx]
    · rfl
theorem number_stop (k : Nat) (l : List UInt8) (m e : Nat) (x : UInt8) (t : List UInt8) (hx : isOfWord x = false) : number k (l ++ x :: t) m e = number k l m e := by
  unfold number
  rw [runOf_stop _ _ _ _ (not_digit hx), takeWhile_stop _ _ _ _ (not_digit hx)]
  cases l with
  | nil => simp [runOf_nil]
  | cons c r => simp
theorem take_stop (l : List UInt8) (n : Nat) (t : List UInt8) (h : n ≤ l.length) : (l ++ t).take n = l.take n := by rw [List.take_append_of_le_length h]
theorem first_stop (l : List UInt8) (hl : l ≠ []) (x : UInt8) (t : List UInt8) (hx : isOfWord x = false) : first (l ++ x :: t) = first l := by
  cases l with
  | nil => exact absurd rfl hl
  | cons c r =>
    rw [List.cons_append]
    simp only [first]
    rw [← List.cons_append, wordSize_stop (c :: r) x t hx, wordSize_stop r x t hx, number_stop _ (c :: r) _ _ x t hx, number_stop _ r _ _ x t hx, take_stop _ _ _ (wordSize_le _), take_stop _ _ _ (wordSize_le _)]

/-! ### The bytes that a piece takes -/
theorem mem_take_runOf {p : UInt8 → Bool} {l : List UInt8} {n : Nat} (hn : n ≤ runOf p l) {y : UInt8} (h : y ∈ l.take n) : p y = true := by
  obtain ⟨i, hi, rfl⟩ := List.mem_iff_getElem.1 h
  rw [List.length_take] at hi
  rw [List.getElem_take]
  exact (runOf_at p l i (by omega)).2
theorem wordSize_run (l : List UInt8) : wordSize l ≤ runOf isOfWord l := by
  cases l with
  | nil => exact Nat.le_refl _
  | cons c r => simp only [wordSize]; split <;> omega
theorem first_bytes {l : List UInt8} {k b s} (h : first l = .ok k b s) : (k = 6 ∧ s = 1 ∧ b = [] ∧ ∃ c r, l = c :: r ∧ c.toNat = 10) ∨ (k ≠ 6 ∧ ∀ y ∈ l.take s, y.toNat ≠ 10) := by
  unfold first at h
  split at h
  · cases h
  · rename_i c r
    split at h
    · rename_i hc
      injection h with h1 h2 h3
      exact .inl ⟨h1.symm, h3.symm, h2.symm, c, r, rfl, hc⟩
    rename_i h10
    split at h
    · rename_i hm
      injection h with h1 h2 h3; subst h1 h2 h3
      exact .inr ⟨by decide, fun y hy => by simp at hy; subst hy; exact h10⟩
    split at h
    · injection h with h1 h2 h3; subst h1 h2 h3
      exact .inr ⟨by decide, fun y hy => (word_bytes (mem_take_runOf (wordSize_run _) hy)).1⟩
    split at h
    · obtain ⟨rfl, rfl, rfl, hp⟩ := number_size h
      exact .inr ⟨by decide, fun y hy => (word_bytes (digit_word (mem_take_runOf (by omega) hy))).1⟩
    split at h
    · obtain ⟨rfl, rfl, rfl, hp⟩ := number_size h
      refine .inr ⟨by decide, fun y hy => ?_⟩
      rw [Nat.add_comm, List.take_succ_cons] at hy
      rcases List.mem_cons.1 hy with rfl | hy
      · exact h10
      · exact (word_bytes (digit_word (mem_take_runOf (Nat.le_refl _) hy))).1
    split at h
    · injection h with h1 h2 h3; subst h1 h2 h3
      refine .inr ⟨by decide, fun y hy => ?_⟩
      rw [Nat.add_comm, List.take_succ_cons] at hy
      rcases List.mem_cons.1 hy with rfl | hy
      · exact h10
      · exact (word_bytes (mem_take_runOf (wordSize_run _) hy)).1
    · cases h
theorem passed_bytes (l : List UInt8) : ∀ y ∈ l.take (passed l), y.toNat ≠ 10 := by
  intro y hy
  unfold passed at hy
  split at hy
  · exact (blank_not (mem_take_runOf (Nat.le_refl _) hy)).1
  · rename_i c r e
    split at hy
    · rw [List.take_add] at hy
      rcases List.mem_append.1 hy with hy | hy
      · exact (blank_not (mem_take_runOf (Nat.le_refl _) hy)).1
      · rw [e] at hy
        have := mem_take_runOf (Nat.le_refl _) hy
        unfold isOfLine at this
        simpa using this
    · exact (blank_not (mem_take_runOf (Nat.le_refl _) hy)).1

/-! ### Places -/
/-- Line and column behind a text that begins at a line and a column. -/
def place : List UInt8 → Nat → Nat → Nat × Nat
  | [], line, col => (line, col)
  | x :: r, line, col => if x.toNat = 10 then place r (line + 1) 1 else place r line (col + 1)
theorem place_append (a b : List UInt8) (line col : Nat) : place (a ++ b) line col = place b (place a line col).1 (place a line col).2 := by
  induction a generalizing line col with
  | nil => rfl
  | cons x r ih => rw [List.cons_append]; simp only [place]; split <;> exact ih _ _
theorem place_flat (a : List UInt8) (line col : Nat) (h : ∀ y ∈ a, y.toNat ≠ 10) : place a line col = (line, col + a.length) := by
  induction a generalizing line col with
  | nil => rfl
  | cons x r ih =>
    simp only [place]
    rw [if_neg (h x (by simp)), ih _ _ (fun y hy => h y (by simp [hy]))]
    simp; omega

/-! ### Passing over -/
theorem passed_stop (l : List UInt8) (x : UInt8) (t : List UInt8) (hx : x.toNat = 10) : passed (l ++ x :: t) = passed l := by
  obtain ⟨h1, h2, _⟩ := nl_not hx
  unfold passed
  rw [runOf_stop _ _ _ _ h1, List.drop_append_of_le_length (runOf_le _ _)]
  cases hd : l.drop (runOf isBlank l) with
  | nil => simp [hx]
  | cons c r =>
    simp only [List.cons_append]
    split
    · rw [← List.cons_append, runOf_stop _ _ _ _ h2]
    · rfl
theorem passed_hash (l : List UInt8) (x : UInt8) (t : List UInt8) (hx : x.toNat = 35) (hl : ∀ y ∈ l, y.toNat ≠ 35) : passed l = runOf isBlank l ∧ passed (l ++ x :: t) = if runOf isBlank l = l.length then l.length + runOf isOfLine (x :: t) else passed l := by
  obtain ⟨h1, h2, _⟩ := hash_not hx
  have hp : passed l = runOf isBlank l := by
    unfold passed
    cases hd : l.drop (runOf isBlank l) with
    | nil => rfl
    | cons c r =>
      have hm : c ∈ l := List.mem_of_mem_drop (by rw [hd]; simp)
      simp only
      rw [if_neg (hl c hm)]
  refine ⟨hp, ?_⟩
  rw [hp]
  unfold passed
  rw [runOf_stop _ _ _ _ h1, List.drop_append_of_le_length (runOf_le _ _)]
  have hle := runOf_le isBlank l
  cases hd : l.drop (runOf isBlank l) with
  | nil =>
    have : l.length ≤ runOf isBlank l := List.drop_eq_nil_iff.1 hd
    rw [if_pos (by omega)]
    simp only [List.nil_append]
    rw [if_pos hx]
    omega
  | cons c r =>
    have hm : c ∈ l := List.mem_of_mem_drop (by rw [hd]; simp)
    have hne : runOf isBlank l ≠ l.length := fun e => by rw [e, List.drop_length] at hd; cases hd
    rw [if_neg hne]
    simp only [List.cons_append]
    rw [if_neg (hl c hm)]
theorem passed_blank (x : UInt8) (l : List UInt8) (hx : isBlank x = true) : passed (x :: l) = passed l + 1 := by
  unfold passed
  rw [runOf_cons, if_pos hx, List.drop_succ_cons]
  cases hd : l.drop (runOf isBlank l) with
  | nil => rfl
  | cons c r => simp only; split <;> omega

/-! ### The pieces of longer texts -/
theorem lexed_blank {x : UInt8} {l : List UInt8} {line col ts f} (hx : isBlank x = true) (h : Lexed l line (col + 1) ts f) : Lexed (x :: l) line col ts f := by
  have hp := passed_blank x l hx
  have e : ∀ n, col + 1 + n = col + (n + 1) := fun n => by omega
  cases h with
  | done h1 => exact .done (by rw [hp, List.drop_succ_cons]; exact h1)
  | bad h1 h2 =>
    have := Lexed.bad (l := x :: l) (line := line) (col := col) (by rw [hp, List.drop_succ_cons]; exact h1) h2
    rw [hp] at this
    rw [e]; exact this
  | step h1 h2 h3 =>
    have := Lexed.step (l := x :: l) (line := line) (col := col) (by rw [hp, List.drop_succ_cons]; exact h1) h2 (by rw [hp, ← e]; exact h3)
    rw [hp] at this
    rw [e]; exact this
def Tok.down (d : Nat) (t : Tok) : Tok := ⟨t.kind, t.body, t.line + d, t.col⟩
def Tok.right (d : Nat) (t : Tok) : Tok := ⟨t.kind, t.body, t.line, t.col + d⟩
theorem lexed_down {l line col ts f} (h : Lexed l line col ts f) (d : Nat) : Lexed l (line + d) col (ts.map (Tok.down d)) (f.map fun x => ⟨x.code, x.line + d, x.col⟩) := by
  induction h with
  | done h1 => exact .done h1
  | bad h1 h2 => exact .bad h1 h2
  | @step l line col c r k b s ts f h1 h2 _ ih =>
    refine .step h1 h2 ?_
    show Lexed _ (if k = 6 then line + d + 1 else line + d) (if k = 6 then 1 else col + passed l + s) _ _
    by_cases h6 : k = 6
    · rw [if_pos h6, if_pos h6] at ih ⊢
      rw [Nat.add_right_comm] at ih
      exact ih
    · rw [if_neg h6, if_neg h6] at ih ⊢
      exact ih
theorem lexed_right {l line col ts f} (h : Lexed l line col ts f) (d : Nat) (hl : ∀ y ∈ l, y.toNat ≠ 10) : Lexed l line (col + d) (ts.map (Tok.right d)) (f.map fun x => ⟨x.code, x.line, x.col + d⟩) := by
  induction h with
  | done h1 => exact .done h1
  | @bad l line col c r e h1 h2 =>
    have := Lexed.bad (line := line) (col := col + d) h1 h2
    rw [Nat.add_right_comm] at this
    exact this
  | @step l line col c r k b s ts f h1 h2 _ ih =>
    have hm : ∀ y ∈ c :: r, y.toNat ≠ 10 := fun y hy => hl y (List.mem_of_mem_drop (by rw [h1]; exact hy))
    have h6 : k ≠ 6 := by
      rcases first_bytes h2 with ⟨_, _, _, c', r', e, h10⟩ | ⟨h6, _⟩
      · injection e with e1 e2; subst e1; exact absurd h10 (hm c (by simp))
      · exact h6
    have i2 := ih (fun y hy => hm y (List.mem_of_mem_drop hy))
    rw [if_neg h6, if_neg h6] at i2
    have e : col + passed l + s + d = col + d + passed l + s := by omega
    rw [e] at i2
    have := Lexed.step (line := line) (col := col + d) h1 h2 (by rw [if_neg h6, if_neg h6]; exact i2)
    rw [Nat.add_right_comm] at this
    exact this
/-! ### One behind the other -/
theorem drop_app (l : List UInt8) (n : Nat) (t : List UInt8) (h : n ≤ l.length) : (l ++ t).drop n = l.drop n ++ t := by rw [List.drop_append_of_le_length h]
/-- Two texts with a newline between. -/
theorem lexed_join {a line col ts f} (h : Lexed a line col ts f) (hf : f = none) (x : UInt8) (hx : x.toNat = 10) (b : List UInt8) (ts2 : List Tok) (f2 : Option Flt)
    (h2 : Lexed b ((place a line col).1 + 1) 1 ts2 f2) : Lexed (a ++ x :: b) line col (ts ++ ⟨6, [], (place a line col).1, (place a line col).2⟩ :: ts2) f2 := by
  induction h with
  | @done l line col h1 =>
    have hle := passed_le l
    have e : passed l = l.length := by have := List.drop_eq_nil_iff.1 h1; omega
    have hp : place l line col = (line, col + passed l) := by
      rw [e]
      refine place_flat l line col (fun y hy => passed_bytes l y ?_)
      rw [e, List.take_length]; exact hy
    rw [hp] at h2 ⊢
    have hs := passed_stop l x b hx
    have := Lexed.step (l := l ++ x :: b) (line := line) (col := col) (c := x) (r := b) (k := 6) (b := []) (s := 1) (ts := ts2) (f := f2) (by rw [hs, e, drop_app _ _ _ (Nat.le_refl _), List.drop_length]; rfl) (by simp [first, hx]) (by simpa using h2)
    rw [hs] at this
    exact this
  | bad h1 h3 => cases hf
  | @step l line col c r k b' s ts f h1 h3 h4 ih =>
    have hs := passed_stop l x b hx
    have hs2 := first_size h3
    have hfs := first_stop (c :: r) (by simp) x b (nl_not hx).2.2
    have hpl : place l line col = place ((c :: r).drop s) (if k = 6 then line + 1 else line) (if k = 6 then 1 else col + passed l + s) := by
      have e1 : l = l.take (passed l) ++ ((c :: r).take s ++ (c :: r).drop s) := by rw [List.take_append_drop, ← h1, List.take_append_drop]
      have e2 : (l.take (passed l)).length = passed l := by rw [List.length_take]; exact Nat.min_eq_left (passed_le l)
      have e3 : ((c :: r).take s).length = s := by rw [List.length_take]; exact Nat.min_eq_left hs2.2.1
      rw [show place l line col = place (l.take (passed l) ++ ((c :: r).take s ++ (c :: r).drop s)) line col by rw [← e1]]
      rw [place_append, place_flat _ _ _ (passed_bytes l), place_append, e2]
      rcases first_bytes h3 with ⟨h6, rfl, _, c', r', e, h10⟩ | ⟨h6, hb⟩
      · injection e with e4 e5; subst e4
        rw [if_pos h6, if_pos h6]
        have : place ((c :: r).take 1) line (col + passed l) = (line + 1, 1) := by simp [place, h10]
        simp only [this]
      · rw [if_neg h6, if_neg h6, place_flat _ _ _ hb, e3]
    rw [hpl] at h2 ⊢
    have i2 := ih hf h2
    have := Lexed.step (l := l ++ x :: b) (line := line) (col := col) (c := c) (r := r ++ x :: b) (by rw [hs, drop_app _ _ _ (passed_le l), h1]; rfl) (by rw [← List.cons_append, hfs]; exact h3) (by rw [hs, ← List.cons_append, drop_app _ _ _ hs2.2.1]; exact i2)
    rw [hs] at this
    exact this
/-- A text of one line and a remark behind it. -/
theorem lexed_remark {a line col ts f} (h : Lexed a line col ts f) (ha : ∀ y ∈ a, y.toNat ≠ 10 ∧ y.toNat ≠ 35) (x : UInt8) (hx : x.toNat = 35) (b : List UInt8) (hb : ∀ y ∈ b, y.toNat ≠ 10) : Lexed (a ++ x :: b) line col ts f := by
  have hlen : runOf isOfLine (x :: b) = (x :: b).length := by
    refine runOf_eq isOfLine (x :: b) _ (Nat.le_refl _) (fun i h => ?_) (fun h => absurd h (Nat.lt_irrefl _))
    rcases List.mem_cons.1 (List.getElem_mem h) with e | e
    · rw [e]; exact (hash_not hx).2.1
    · have := hb _ e
      unfold isOfLine
      simpa using this
  induction h with
  | @done l line col h1 =>
    have hle := passed_le l
    have e : passed l = l.length := by have := List.drop_eq_nil_iff.1 h1; omega
    obtain ⟨p1, p2⟩ := passed_hash l x b hx (fun y hy => (ha y hy).2)
    rw [if_pos (by omega)] at p2
    refine .done (List.drop_eq_nil_of_le ?_)
    rw [p2, hlen, List.length_append]
    exact Nat.le_refl _
  | @bad l line col c r e h1 h3 =>
    obtain ⟨p1, p2⟩ := passed_hash l x b hx (fun y hy => (ha y hy).2)
    rw [if_neg (fun e => by rw [p1, e, List.drop_length] at h1; cases h1)] at p2
    have hfs := first_stop (c :: r) (by simp) x b (hash_not hx).2.2
    have := Lexed.bad (l := l ++ x :: b) (line := line) (col := col) (c := c) (r := r ++ x :: b) (by rw [p2, drop_app _ _ _ (passed_le l), h1]; rfl) (by rw [← List.cons_append, hfs]; exact h3)
    rw [p2] at this
    exact this
  | @step l line col c r k b' s ts f h1 h3 h4 ih =>
    obtain ⟨p1, p2⟩ := passed_hash l x b hx (fun y hy => (ha y hy).2)
    rw [if_neg (fun e => by rw [p1, e, List.drop_length] at h1; cases h1)] at p2
    have hfs := first_stop (c :: r) (by simp) x b (hash_not hx).2.2
    have hm : ∀ y ∈ (c :: r).drop s, y.toNat ≠ 10 ∧ y.toNat ≠ 35 := fun y hy => ha y (List.mem_of_mem_drop (by rw [h1]; exact List.mem_of_mem_drop hy))
    have := Lexed.step (l := l ++ x :: b) (line := line) (col := col) (c := c) (r := r ++ x :: b) (by rw [p2, drop_app _ _ _ (passed_le l), h1]; rfl) (by rw [← List.cons_append, hfs]; exact h3) (by rw [p2, ← List.cons_append, drop_app _ _ _ (first_size h3).2.1]; exact ih hm)
    rw [p2] at this
    exact this
end Go.Proofs.YtjomihlnjobndaaGreatDoor
