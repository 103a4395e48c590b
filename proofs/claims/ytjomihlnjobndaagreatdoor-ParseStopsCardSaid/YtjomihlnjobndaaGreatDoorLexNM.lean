/- What follows of the pieces of plain lists of bytes, for the laws of layer 3. No program in it. -/
import Derived.Test.YtjomihlnjobndaaGreatDoorMg19
namespace Go.Proofs.YtjomihlnjobndaaGreatDoor
set_option linter.unusedVariables false
set_option linter.unusedSimpArgs false

theorem letter_not {c : UInt8} (h : isLetter c = true) : isBlank c = false ∧ c.toNat ≠ 35 ∧ c.toNat ≠ 10 ∧ isMark c = false := by
  unfold isLetter at h
  unfold isBlank isMark
  simp at h ⊢
  omega
theorem first_word {l : List UInt8} {b : List UInt8} {s : Nat} (h : first l = .ok 1 b s) : b = l.take (wordSize l) ∧ s = wordSize l := by
  have hn : ∀ {k l m x b s}, number k l m x = .ok 1 b s → k = 1 := by
    intro k l m x b s h
    exact (number_size h).1.symm
  unfold first at h
  split at h
  · cases h
  · split at h
    · cases h
    split at h
    · cases h
    split at h
    · injection h with h1 h2 h3; exact ⟨h2.symm, h3.symm⟩
    split at h
    · exact absurd (hn h) (by decide)
    split at h
    · exact absurd (hn h) (by decide)
    split at h
    · cases h
    · cases h
theorem passed_letter (c : UInt8) (r : List UInt8) (h : isLetter c = true) : passed (c :: r) = 0 := by
  obtain ⟨h1, h2, _⟩ := letter_not h
  unfold passed
  rw [runOf_cons, if_neg (by simp [h1])]
  simp [h2]
theorem first_letter (c : UInt8) (r : List UInt8) (h : isLetter c = true) : first (c :: r) = .ok 1 ((c :: r).take (wordSize (c :: r))) (wordSize (c :: r)) := by
  obtain ⟨_, _, h3, h4⟩ := letter_not h
  unfold first
  simp only
  rw [if_neg h3, if_neg (by simp [h4]), if_pos h]
/-- A text is a word just if it is one piece of that kind. -/
theorem word_lexed (l : List UInt8) (h0 : 0 < l.length) (hw : wordSize l = l.length) : Lexed l 1 1 [⟨1, l, 1, 1⟩] none := by
  cases l with
  | nil => simp at h0
  | cons c r =>
    have hl : isLetter c = true := by
      cases hc : isLetter c with
      | true => rfl
      | false => simp [wordSize, hc] at hw
    have hp := passed_letter c r hl
    have hf := first_letter c r hl
    rw [hw, List.take_length] at hf
    have h := Lexed.step (line := 1) (col := 1) (l := c :: r) (ts := []) (f := none) (by rw [hp]; rfl) hf (by rw [List.drop_length]; exact .done rfl)
    rw [hp] at h
    exact h
theorem lexed_word {l : List UInt8} {t : Tok} (h : Lexed l 1 1 [t] none) (hk : t.kind = 1) (hb : t.body = l) : 0 < l.length ∧ wordSize l = l.length := by
  cases h with
  | @step _ _ _ c r k b s _ _ hd hf h2 =>
    simp only at hk hb
    subst hk
    obtain ⟨h3, h4⟩ := first_word hf
    have h5 := first_size hf
    have h6 := wordSize_le (c :: r)
    have h7 : (c :: r).length = l.length - passed l := by rw [← hd, List.length_drop]
    have h8 : l.length = wordSize (c :: r) := by rw [← hb, h3, List.length_take]; omega
    have h9 : passed l = 0 := by have := passed_le l; simp at h7 h6; omega
    rw [h9, List.drop_zero] at hd
    refine ⟨by rw [hd]; simp, ?_⟩
    rw [h8, ← hd]
end Go.Proofs.YtjomihlnjobndaaGreatDoor
