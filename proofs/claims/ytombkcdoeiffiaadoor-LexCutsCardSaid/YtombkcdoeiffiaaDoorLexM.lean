/- Package lex over plain lists of bytes: the sorts of bytes, the first piece of a text, the pieces of a text as a relation; what follows of them. No program in it. -/
import Derived.Lib.ParseIntBCases
namespace Go.Proofs.YtombkcdoeiffiaaDoor
set_option linter.unusedVariables false
set_option linter.unusedSimpArgs false

def isBlank (c : UInt8) : Bool := c.toNat == 32 || c.toNat == 9 || c.toNat == 13
def isOfLine (c : UInt8) : Bool := c.toNat != 10
def isMark (c : UInt8) : Bool := c.toNat == 61 || c.toNat == 44 || c.toNat == 40 || c.toNat == 41 || c.toNat == 58
def isLetter (c : UInt8) : Bool := (decide (97 ≤ c.toNat) && decide (c.toNat ≤ 122)) || c.toNat == 95
def isDigit (c : UInt8) : Bool := decide (48 ≤ c.toNat) && decide (c.toNat ≤ 57)
def isOfWord (c : UInt8) : Bool := isLetter c || isDigit c

/-- How many at the front are of one sort. -/
def runOf (p : UInt8 → Bool) (l : List UInt8) : Nat := (l.takeWhile p).length
theorem runOf_nil (p : UInt8 → Bool) : runOf p [] = 0 := rfl
theorem runOf_cons (p : UInt8 → Bool) (c : UInt8) (r : List UInt8) : runOf p (c :: r) = if p c then runOf p r + 1 else 0 := by
  unfold runOf
  rw [List.takeWhile_cons]
  split <;> rfl
theorem runOf_le (p : UInt8 → Bool) (l : List UInt8) : runOf p l ≤ l.length := by
  induction l with
  | nil => exact Nat.le_refl _
  | cons c r ih => rw [runOf_cons]; split <;> simp <;> omega
theorem take_runOf (p : UInt8 → Bool) (l : List UInt8) : l.take (runOf p l) = l.takeWhile p := by
  induction l with
  | nil => rfl
  | cons c r ih =>
    rw [runOf_cons, List.takeWhile_cons]
    split
    · rw [List.take_succ_cons, ih]
    · rfl
/-- All of them are of the sort; the next one isn't. -/
theorem runOf_at (p : UInt8 → Bool) (l : List UInt8) (i : Nat) (h : i < runOf p l) : ∃ h' : i < l.length, p l[i] = true := by
  induction l generalizing i with
  | nil => simp [runOf_nil] at h
  | cons c r ih =>
    rw [runOf_cons] at h
    split at h
    · rename_i hc
      cases i with
      | zero => exact ⟨by simp, hc⟩
      | succ i =>
        obtain ⟨h', k⟩ := ih i (by omega)
        exact ⟨by simp; omega, by simpa using k⟩
    · omega
theorem runOf_end (p : UInt8 → Bool) (l : List UInt8) (h : runOf p l < l.length) : p l[runOf p l] = false := by
  induction l with
  | nil => simp at h
  | cons c r ih =>
    by_cases hc : p c = true
    · have e : runOf p (c :: r) = runOf p r + 1 := by rw [runOf_cons, if_pos hc]
      have h2 : runOf p r < r.length := by rw [e] at h; simpa using h
      have := ih h2
      simp only [e, List.getElem_cons_succ]
      exact this
    · have e : runOf p (c :: r) = 0 := by rw [runOf_cons, if_neg hc]
      simp only [e, List.getElem_cons_zero]
      simpa using hc
/-- Where counting may stop: n bytes of the sort, and then none. -/
theorem runOf_eq (p : UInt8 → Bool) (l : List UInt8) (n : Nat) (hn : n ≤ l.length) (ha : ∀ i (h : i < n), p (l[i]'(by omega)) = true) (he : ∀ h : n < l.length, p l[n] = false) : runOf p l = n := by
  induction l generalizing n with
  | nil => simp at hn; subst hn; rfl
  | cons c r ih =>
    rw [runOf_cons]
    cases n with
    | zero =>
      have := he (by simp)
      simp at this
      rw [if_neg (by simp [this])]
    | succ n =>
      have h0 := ha 0 (by omega)
      simp at h0
      rw [if_pos h0]
      congr 1
      refine ih n (by simpa using hn) (fun i h => ?_) (fun h => ?_)
      · simpa using ha (i + 1) (by omega)
      · have k := he (by simpa using h)
        rw [List.getElem_cons_succ] at k
        exact k
/-- A byte that is not of the sort stops the counting, whatever follows it. -/
theorem runOf_stop (p : UInt8 → Bool) (l : List UInt8) (c : UInt8) (t : List UInt8) (hc : p c = false) : runOf p (l ++ c :: t) = runOf p l := by
  induction l with
  | nil => simp [runOf_cons, hc, runOf_nil]
  | cons d r ih => rw [List.cons_append, runOf_cons, runOf_cons, ih]
theorem takeWhile_stop (p : UInt8 → Bool) (l : List UInt8) (c : UInt8) (t : List UInt8) (hc : p c = false) : (l ++ c :: t).takeWhile p = l.takeWhile p := by
  induction l with
  | nil => simp [hc]
  | cons d r ih => rw [List.cons_append, List.takeWhile_cons, List.takeWhile_cons, ih]

def wordSize (l : List UInt8) : Nat := match l with
  | [] => 0
  | c :: r => if isLetter c then runOf isOfWord (c :: r) else 0
theorem wordSize_le (l : List UInt8) : wordSize l ≤ l.length := by
  cases l with
  | nil => exact Nat.le_refl _
  | cons c r => simp only [wordSize]; split; exact runOf_le _ _; omega
theorem wordSize_pos (c : UInt8) (r : List UInt8) (h : isLetter c = true) : 0 < wordSize (c :: r) := by
  simp only [wordSize, if_pos h]
  rw [runOf_cons, if_pos (by simp [isOfWord, h])]
  omega
/-- The bytes ahead of the next piece. -/
def passed (l : List UInt8) : Nat := match l.drop (runOf isBlank l) with
  | [] => runOf isBlank l
  | c :: r => if c.toNat = 35 then runOf isBlank l + runOf isOfLine (c :: r) else runOf isBlank l
theorem passed_le (l : List UInt8) : passed l ≤ l.length := by
  have h := runOf_le isBlank l
  unfold passed
  split
  · exact h
  · rename_i c r e
    split
    · have h2 := runOf_le isOfLine (c :: r)
      have h3 : (c :: r).length = l.length - runOf isBlank l := by rw [← e, List.length_drop]
      omega
    · exact h

/-- The first piece: its kind, its text, how many bytes it takes; or the error's number. -/
inductive Cut where
  | ok (kind : Nat) (body : List UInt8) (size : Nat)
  | bad (code : Nat)
def number (kind : Nat) (l : List UInt8) (most extra : Nat) : Cut :=
  if 1 < runOf isDigit l ∧ (l.head?.map UInt8.toNat) = some 48 then .bad 2
  else match Go.Lib.parseUintB 64 (l.takeWhile isDigit) with
    | .ok u => if most < u then .bad 2 else .ok kind (l.takeWhile isDigit) (extra + runOf isDigit l)
    | _ => .bad 2
def first (l : List UInt8) : Cut := match l with
  | [] => .bad 1
  | c :: r =>
    if c.toNat = 10 then .ok 6 [] 1
    else if isMark c then .ok 5 [c] 1
    else if isLetter c then .ok 1 ((c :: r).take (wordSize (c :: r))) (wordSize (c :: r))
    else if isDigit c then number 2 (c :: r) 18446744073709551615 0
    else if c.toNat = 37 then number 3 r 4095 1
    else if c.toNat = 64 ∧ 0 < wordSize r then .ok 4 (r.take (wordSize r)) (1 + wordSize r)
    else .bad 1

structure Tok where
  kind : Nat
  body : List UInt8
  line : Nat
  col : Nat
structure Flt where
  code : Nat
  line : Nat
  col : Nat
/-- The pieces of a text that begins at a line and a column, or its first fault. -/
inductive Lexed : List UInt8 → Nat → Nat → List Tok → Option Flt → Prop
  | done {l line col} : l.drop (passed l) = [] → Lexed l line col [] none
  | bad {l line col c r e} : l.drop (passed l) = c :: r → first (c :: r) = .bad e → Lexed l line col [] (some ⟨e, line, col + passed l⟩)
  | step {l line col c r k b s ts f} : l.drop (passed l) = c :: r → first (c :: r) = .ok k b s →
      Lexed ((c :: r).drop s) (if k = 6 then line + 1 else line) (if k = 6 then 1 else col + passed l + s) ts f → Lexed l line col (⟨k, b, line, col + passed l⟩ :: ts) f

theorem Lexed.unique {l line col ts f} (h : Lexed l line col ts f) : ∀ {ts' f'}, Lexed l line col ts' f' → ts = ts' ∧ f = f' := by
  induction h with
  | done h0 =>
    intro ts' f' h'
    cases h' with
    | done => exact ⟨rfl, rfl⟩
    | bad h1 => rw [h0] at h1; cases h1
    | step h1 => rw [h0] at h1; cases h1
  | bad h0 h1 =>
    intro ts' f' h'
    cases h' with
    | done h2 => rw [h0] at h2; cases h2
    | bad h2 h3 =>
      rw [h0] at h2; injection h2 with a b; subst a b
      rw [h1] at h3; injection h3 with a; subst a
      exact ⟨rfl, rfl⟩
    | step h2 h3 =>
      rw [h0] at h2; injection h2 with a b; subst a b
      rw [h1] at h3; cases h3
  | step h0 h1 _ ih =>
    intro ts' f' h'
    cases h' with
    | done h2 => rw [h0] at h2; cases h2
    | bad h2 h3 =>
      rw [h0] at h2; injection h2 with a b; subst a b
      rw [h1] at h3; cases h3
    | step h2 h3 h4 =>
      rw [h0] at h2; injection h2 with a b; subst a b
      rw [h1] at h3; injection h3 with a b c; subst a b c
      obtain ⟨rfl, rfl⟩ := ih h4
      exact ⟨rfl, rfl⟩

theorem number_size {kind l most extra k b s} (h : number kind l most extra = .ok k b s) : k = kind ∧ b = l.takeWhile isDigit ∧ s = extra + runOf isDigit l ∧ 0 < runOf isDigit l := by
  unfold number at h
  split at h
  · cases h
  · split at h
    · rename_i hp
      split at h
      · cases h
      · injection h with h1 h2 h3
        refine ⟨h1.symm, h2.symm, h3.symm, ?_⟩
        rcases Nat.eq_zero_or_pos (runOf isDigit l) with h0 | h0
        · have e : l.takeWhile isDigit = [] := List.length_eq_zero_iff.1 h0
          rw [e] at hp
          simp [Go.Lib.parseUintB] at hp
        · exact h0
    · cases h
theorem first_size {l k b s} (h : first l = .ok k b s) : 0 < s ∧ s ≤ l.length ∧ b.length ≤ s := by
  unfold first at h
  split at h
  · cases h
  · rename_i c r
    split at h
    · injection h with h1 h2 h3; subst h1 h2 h3; simp
    split at h
    · injection h with h1 h2 h3; subst h1 h2 h3; simp
    split at h
    · rename_i hl
      injection h with h1 h2 h3; subst h1 h2 h3
      exact ⟨wordSize_pos c r hl, wordSize_le _, by rw [List.length_take]; exact Nat.min_le_left _ _⟩
    split at h
    · obtain ⟨rfl, rfl, rfl, hp⟩ := number_size h
      have := runOf_le isDigit (c :: r)
      exact ⟨by omega, by omega, by unfold runOf; omega⟩
    split at h
    · obtain ⟨rfl, rfl, rfl, hp⟩ := number_size h
      have := runOf_le isDigit r
      refine ⟨by omega, by simp; omega, by unfold runOf; omega⟩
    split at h
    · rename_i hw
      injection h with h1 h2 h3; subst h1 h2 h3
      have := wordSize_le r
      exact ⟨by omega, by simp; omega, by rw [List.length_take]; omega⟩
    · cases h
/-- The codes of faults: 1 and 2 alone. -/
theorem first_bad {l e} (h : first l = .bad e) : e = 1 ∨ e = 2 := by
  have hn : ∀ {k l m x e}, number k l m x = .bad e → e = 2 := by
    intro k l m x e h
    unfold number at h
    split at h
    · injection h with h; exact h.symm
    · split at h
      · split at h
        · injection h with h; exact h.symm
        · cases h
      · injection h with h; exact h.symm
  unfold first at h
  split at h
  · injection h with h; exact .inl h.symm
  · split at h
    · cases h
    split at h
    · cases h
    split at h
    · cases h
    split at h
    · exact .inr (hn h)
    split at h
    · exact .inr (hn h)
    split at h
    · cases h
    · injection h with h; exact .inl h.symm
/-- There always is an answer. -/
theorem lexed_total : ∀ (n : Nat) (l : List UInt8) (line col : Nat), l.length ≤ n → ∃ ts f, Lexed l line col ts f
  | 0, l, line, col, h => by
    have : l = [] := List.length_eq_zero_iff.1 (by omega)
    subst this
    exact ⟨[], none, .done (by simp)⟩
  | n + 1, l, line, col, h => by
    cases hd : l.drop (passed l) with
    | nil => exact ⟨[], none, .done hd⟩
    | cons c r =>
      cases hf : first (c :: r) with
      | bad e => exact ⟨_, _, .bad hd hf⟩
      | ok k b s =>
        have h1 := first_size hf
        have h2 : (c :: r).length ≤ l.length := by rw [← hd, List.length_drop]; omega
        obtain ⟨ts, f, h3⟩ := lexed_total n ((c :: r).drop s) (if k = 6 then line + 1 else line) (if k = 6 then 1 else col + passed l + s) (by rw [List.length_drop]; omega)
        exact ⟨_, _, .step hd hf h3⟩
end Go.Proofs.YtombkcdoeiffiaaDoor
