/- Where the lines of a text begin; that each piece stands where it says. No program in it. -/
import Derived.Test.YtombkcdoeiffiaaDoorLexP
namespace Go.Proofs.YtombkcdoeiffiaaDoor
set_option linter.unusedVariables false
set_option linter.unusedSimpArgs false

def headOf (k : Nat) : List UInt8 := if k = 3 then [37] else if k = 4 then [64] else if k = 6 then [10] else []
theorem byte_of {c : UInt8} {n : Nat} (h : c.toNat = n) (hn : n < 256) : c = UInt8.ofNat n := by
  apply UInt8.toNat_inj.1
  rw [h]
  simp
  omega
theorem first_text {l : List UInt8} {k b s} (h : first l = .ok k b s) : headOf k ++ b = l.take s := by
  unfold first at h
  split at h
  · cases h
  · rename_i c r
    split at h
    · rename_i hc
      injection h with h1 h2 h3; subst h1 h2 h3
      have := byte_of hc (by decide)
      subst this
      rfl
    split at h
    · injection h with h1 h2 h3; subst h1 h2 h3; rfl
    split at h
    · injection h with h1 h2 h3; subst h1 h2 h3; rfl
    split at h
    · obtain ⟨rfl, rfl, rfl, hp⟩ := number_size h
      rw [Nat.zero_add, take_runOf]; rfl
    split at h
    · rename_i hc
      obtain ⟨rfl, rfl, rfl, hp⟩ := number_size h
      have := byte_of hc (by decide)
      subst this
      rw [Nat.add_comm, List.take_succ_cons, take_runOf]; rfl
    split at h
    · rename_i hc
      injection h with h1 h2 h3; subst h1 h2 h3
      have := byte_of hc.1 (by decide)
      subst this
      rw [Nat.add_comm, List.take_succ_cons]; rfl
    · cases h
/-- Where the lines among the first k bytes begin. -/
def startsTo (l : List UInt8) : Nat → List Nat
  | 0 => [0]
  | k + 1 => if (l[k]?.map UInt8.toNat) = some 10 then startsTo l k ++ [k + 1] else startsTo l k
theorem starts_prefix (l : List UInt8) (a d : Nat) : ∃ t, startsTo l (a + d) = startsTo l a ++ t := by
  induction d with
  | zero => exact ⟨[], by simp⟩
  | succ d ih =>
    obtain ⟨t, ht⟩ := ih
    rw [← Nat.add_assoc]
    simp only [startsTo]
    split
    · exact ⟨t ++ [a + d + 1], by rw [ht, List.append_assoc]⟩
    · exact ⟨t, ht⟩
theorem starts_place (l : List UInt8) (m : Nat) (hm : m ≤ l.length) : (startsTo l m).length = (place (l.take m) 1 1).1 ∧ (place (l.take m) 1 1).2 ≤ m + 1 ∧ 1 ≤ (place (l.take m) 1 1).2 ∧ (startsTo l m)[(place (l.take m) 1 1).1 - 1]? = some (m + 1 - (place (l.take m) 1 1).2) ∧ 1 ≤ (place (l.take m) 1 1).1 := by
  induction m with
  | zero => exact ⟨rfl, Nat.le_refl _, Nat.le_refl _, rfl, Nat.le_refl _⟩
  | succ m ih =>
    obtain ⟨h1, h2, h3, h4, h5⟩ := ih (by omega)
    have hlt : m < l.length := by omega
    have hp : place (l.take (m + 1)) 1 1 = if l[m].toNat = 10 then ((place (l.take m) 1 1).1 + 1, 1) else ((place (l.take m) 1 1).1, (place (l.take m) 1 1).2 + 1) := by
      rw [List.take_succ_eq_append_getElem hlt, place_append]
      simp [place]
    rw [hp]
    simp only [startsTo, List.getElem?_eq_getElem hlt, Option.map_some, Option.some.injEq]
    by_cases h10 : l[m].toNat = 10
    · rw [if_pos h10, if_pos h10]
      refine ⟨by rw [List.length_append, h1]; rfl, by simp, Nat.le_refl _, ?_, by simp⟩
      simp only [Nat.add_sub_cancel]
      rw [List.getElem?_append_right (by omega), h1]
      simp
    · rw [if_neg h10, if_neg h10]
      exact ⟨h1, by simp only; omega, by simp only; omega, by rw [h4]; congr 1; omega, h5⟩
/-- The line's beginning, at any place of the text. -/
theorem starts_at (l : List UInt8) (m : Nat) (hm : m ≤ l.length) : (startsTo l l.length)[(place (l.take m) 1 1).1 - 1]? = some (m + 1 - (place (l.take m) 1 1).2) ∧ (place (l.take m) 1 1).1 ≤ (startsTo l l.length).length := by
  obtain ⟨h1, h2, h3, h4, h5⟩ := starts_place l m hm
  obtain ⟨t, ht⟩ := starts_prefix l m (l.length - m)
  rw [show m + (l.length - m) = l.length by omega] at ht
  rw [ht]
  refine ⟨?_, by rw [List.length_append]; omega⟩
  rw [List.getElem?_append_left (by omega)]
  exact h4
theorem starts_bound (l : List UInt8) (k : Nat) : (startsTo l k).length ≤ k + 1 ∧ ∀ x ∈ startsTo l k, x ≤ k := by
  induction k with
  | zero => exact ⟨Nat.le_refl _, fun x hx => by simp [startsTo] at hx; omega⟩
  | succ k ih =>
    simp only [startsTo]
    split
    · refine ⟨by rw [List.length_append]; simp; omega, fun x hx => ?_⟩
      rcases List.mem_append.1 hx with hx | hx
      · have := ih.2 x hx; omega
      · simp at hx; omega
    · exact ⟨by omega, fun x hx => by have := ih.2 x hx; omega⟩
/-- Gone through the first pieces: a place behind them. -/
structure Gone (l : List UInt8) (ts : List Tok) (a line : Nat) : Prop where
  le : a ≤ l.length
  rest : ∃ col, Lexed (l.drop a) line col ts none ∧ place (l.take a) 1 1 = (line, col)
/-- The next piece stands at a place from there on; behind it one has gone on. -/
theorem Gone.next {l : List UInt8} {t : Tok} {ts : List Tok} {a line : Nat} (h : Gone l (t :: ts) a line) :
    ∃ p : Nat, a ≤ p ∧ t.line = line ∧ 1 ≤ line ∧ line ≤ (startsTo l l.length).length ∧ 1 ≤ t.col ∧ t.col ≤ p + 1 ∧ (startsTo l l.length)[line - 1]? = some (p + 1 - t.col) ∧
      0 < (headOf t.kind ++ t.body).length ∧ p + (headOf t.kind ++ t.body).length ≤ l.length ∧ (l.drop p).take (headOf t.kind ++ t.body).length = headOf t.kind ++ t.body ∧
      Gone l ts (p + (headOf t.kind ++ t.body).length) (if t.kind = 6 then line + 1 else line) := by
  obtain ⟨hle, col, hx, hp⟩ := h
  cases hx with
  | @step _ _ _ c r k b s _ _ h1 h2 h3 =>
    have hpl := passed_le (l.drop a)
    rw [List.length_drop] at hpl
    have hsz := first_size h2
    have hcr : l.drop (a + passed (l.drop a)) = c :: r := by rw [← List.drop_drop]; exact h1
    have hlen : (c :: r).length = l.length - (a + passed (l.drop a)) := by rw [← hcr, List.length_drop]
    have htx := first_text h2
    have htl : (headOf k ++ b).length = s := by rw [htx, List.length_take]; omega
    have e1 : l.take (a + passed (l.drop a)) = l.take a ++ (l.drop a).take (passed (l.drop a)) := by rw [List.take_add]
    have e2 : ((l.drop a).take (passed (l.drop a))).length = passed (l.drop a) := by rw [List.length_take, List.length_drop]; omega
    have hp2 : place (l.take (a + passed (l.drop a))) 1 1 = (line, col + passed (l.drop a)) := by
      rw [e1, place_append, hp, place_flat _ _ _ (passed_bytes _), e2]
    have e3 : l.take (a + passed (l.drop a) + s) = l.take (a + passed (l.drop a)) ++ (c :: r).take s := by rw [List.take_add, hcr]
    have e4 : ((c :: r).take s).length = s := by rw [List.length_take]; omega
    have hp3 : place (l.take (a + passed (l.drop a) + s)) 1 1 = (if k = 6 then line + 1 else line, if k = 6 then 1 else col + passed (l.drop a) + s) := by
      rw [e3, place_append, hp2]
      rcases first_bytes h2 with ⟨h6, rfl, _, c', r', e, h10⟩ | ⟨h6, hb⟩
      · injection e with e5 e6; subst e5
        rw [if_pos h6, if_pos h6]
        simp [place, h10]
      · rw [if_neg h6, if_neg h6, place_flat _ _ _ hb, e4]
    obtain ⟨g1, g2⟩ := starts_at l (a + passed (l.drop a)) (by omega)
    obtain ⟨q1, q2, q3, q4, q5⟩ := starts_place l (a + passed (l.drop a)) (by omega)
    rw [hp2] at g1 g2 q2 q3 q5
    refine ⟨a + passed (l.drop a), by omega, rfl, q5, g2, q3, q2, g1, by rw [htl]; exact hsz.1, by rw [htl]; omega, by rw [htl, hcr, ← htx], ?_⟩
    rw [htl]
    refine ⟨by omega, _, ?_, hp3⟩
    rw [← List.drop_drop, hcr]
    exact h3
/-- Behind the last piece no line begins any more. -/
theorem Gone.last {l : List UInt8} {a line : Nat} (h : Gone l [] a line) : (startsTo l l.length).length = line := by
  obtain ⟨hle, col, hx, hp⟩ := h
  cases hx with
  | done h1 =>
    have hpl := passed_le (l.drop a)
    have hnil := List.drop_eq_nil_iff.1 h1
    have e : l.drop a = (l.drop a).take (passed (l.drop a)) := by rw [List.take_of_length_le hnil]
    have hall : place l 1 1 = (line, col + (l.drop a).length) := by
      rw [show place l 1 1 = place (l.take a ++ l.drop a) 1 1 by rw [List.take_append_drop], place_append, hp]
      exact place_flat _ _ _ (fun y hy => passed_bytes (l.drop a) y (by rw [← e]; exact hy))
    obtain ⟨q1, _⟩ := starts_place l l.length (Nat.le_refl _)
    rw [List.take_length, hall] at q1
    exact q1
end Go.Proofs.YtombkcdoeiffiaaDoor
