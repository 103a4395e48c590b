/- The codes of faults; columns of pieces and faults. -/
import Derived.Test.YtombkcdoeiffiaaDoorLexE
import Derived.Test.YtombkcdoeiffiaaDoorLexP
namespace Go.Proofs.YtombkcdoeiffiaaDoor
set_option linter.unusedVariables false
set_option linter.unusedSimpArgs false

theorem lexed_codes {l line col ts f} (h : Lexed l line col ts f) : ∀ x, f = some x → x.code = 1 ∨ x.code = 2 := by
  induction h with
  | done _ => intro x h; cases h
  | bad _ h1 => intro x h; injection h with h; subst h; exact first_bad h1
  | step _ _ _ ih => exact ih
theorem toks_codes {l ts x} (h : Toks l ts (some x)) : 0 < x.code ∧ ts = [] ∧ x.code ≤ 6 := by
  rcases h with ⟨_, h1, h2⟩ | ⟨_, t, h1, h2⟩
  · injection h2 with h2; subst h2; exact ⟨by decide, h1, by decide⟩
  · rcases lexed_codes h1 x rfl with h3 | h3
    · exact ⟨by omega, by simpa using h2, by omega⟩
    · exact ⟨by omega, by simpa using h2, by omega⟩
theorem lexed_cols {l line col ts f} (h : Lexed l line col ts f) (hc : 1 ≤ col) : (∀ t ∈ ts, t.col ≤ col + l.length) ∧ ∀ x, f = some x → x.col ≤ col + l.length := by
  induction h with
  | done _ => exact ⟨fun t h => (by simp at h), fun x h => (by cases h)⟩
  | @bad l line col c r e h1 h2 =>
    have := passed_le l
    exact ⟨fun t h => (by simp at h), fun x h => by injection h with h; subst h; simp only; omega⟩
  | @step l line col c r k b s ts f h1 h2 h3 ih =>
    have hp := passed_le l
    have hz := first_size h2
    have hl : (c :: r).length = l.length - passed l := by rw [← h1, List.length_drop]
    have hd : ((c :: r).drop s).length = (c :: r).length - s := List.length_drop
    have hb : (if k = 6 then 1 else col + passed l + s) + ((c :: r).drop s).length ≤ col + l.length := by
      split <;> omega
    obtain ⟨i1, i2⟩ := ih (by split <;> omega)
    refine ⟨fun t ht => ?_, fun x hx => Nat.le_trans (i2 x hx) hb⟩
    rcases List.mem_cons.1 ht with rfl | ht
    · simp only; omega
    · exact Nat.le_trans (i1 t ht) hb
theorem toks_cols {l ts f} (h : Toks l ts f) : (∀ t ∈ ts, t.col ≤ 65537) ∧ ∀ x, f = some x → x.col ≤ 65537 := by
  rcases h with ⟨_, rfl, rfl⟩ | ⟨h1, t, h2, rfl⟩
  · exact ⟨fun t h => (by simp at h), fun x h => by injection h with h; subst h; decide⟩
  · obtain ⟨i1, i2⟩ := lexed_cols h2 (Nat.le_refl 1)
    refine ⟨fun t ht => ?_, fun x hx => by have := i2 x hx; omega⟩
    split at ht
    · have := i1 t ht; omega
    · simp at ht
theorem lexed_lines {l line col ts f} (h : Lexed l line col ts f) : ∀ t ∈ ts, t.line ≤ line + l.length := by
  induction h with
  | done _ => exact fun t h => (by simp at h)
  | bad _ _ => exact fun t h => (by simp at h)
  | @step l line col c r k b s ts f h1 h2 h3 ih =>
    have hz := first_size h2
    have hl : (c :: r).length = l.length - passed l := by rw [← h1, List.length_drop]
    have hd : ((c :: r).drop s).length = (c :: r).length - s := List.length_drop
    intro t ht
    rcases List.mem_cons.1 ht with rfl | ht
    · simp only; omega
    · have := ih t ht
      have hb : (if k = 6 then line + 1 else line) ≤ line + 1 := by split <;> omega
      omega
theorem toks_lines {l ts f} (h : Toks l ts f) : ∀ t ∈ ts, t.line ≤ 65537 := by
  rcases h with ⟨_, rfl, rfl⟩ | ⟨h1, t, h2, rfl⟩
  · exact fun t h => (by simp at h)
  · intro t ht
    split at ht
    · have := lexed_lines h2 t ht; omega
    · simp at ht
theorem lexed_len {l line col ts f} (h : Lexed l line col ts f) : ts.length ≤ l.length := by
  induction h with
  | done _ => simp
  | bad _ _ => simp
  | @step l line col c r k b s ts f h1 h2 h3 ih =>
    have hz := first_size h2
    have hl : (c :: r).length = l.length - passed l := by rw [← h1, List.length_drop]
    have hd : ((c :: r).drop s).length = (c :: r).length - s := List.length_drop
    rw [List.length_cons]
    omega
theorem toks_len {l ts f} (h : Toks l ts f) : ts.length ≤ 65536 := by
  rcases h with ⟨_, rfl, rfl⟩ | ⟨h1, t, h2, rfl⟩
  · simp
  · have := lexed_len h2
    split
    · omega
    · simp
end Go.Proofs.YtombkcdoeiffiaaDoor
