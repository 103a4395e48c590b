/- What the pure parser does to the pieces and the names asked, and where its faults stand. No program here. -/
import Derived.Test.YtjomihlnjobndaaGreatDoorMg19
namespace Go.Proofs.YtjomihlnjobndaaGreatDoor
set_option linter.unusedVariables false
set_option linter.unusedSimpArgs false

/-- Every piece stands on a line. -/
def On (l : List Tok) : Prop := ∀ t ∈ l, 0 < t.line
/-- What is answered is so, the pieces are some of the last ones, the names asked have grown; a fault stands on a line. -/
def Sy {α : Type} (p : PM α) (Q : α → Prop) : Prop := ∀ s, On s.ts → On s.asked → match p s with
  | .ok (v, t) => Q v ∧ On t.ts ∧ On t.asked ∧ t.ts.length ≤ s.ts.length ∧ ∃ B, t.asked = s.asked ++ B
  | .error f => 0 < f.line
section
variable {α β : Type}
theorem Sy.bind {p : PM α} {f : α → PM β} {Q : α → Prop} {T : β → Prop} (h : Sy p Q) (k : ∀ a, Q a → Sy (f a) T) : Sy (p >>= f) T := by
  intro s h1 h2
  have h3 := h s h1 h2
  show match (p s >>= fun x => f x.1 x.2) with
    | .ok (v, t) => T v ∧ On t.ts ∧ On t.asked ∧ t.ts.length ≤ s.ts.length ∧ ∃ B, t.asked = s.asked ++ B
    | .error f => 0 < f.line
  cases hp : p s with
  | error e => rw [hp] at h3; exact h3
  | ok x =>
    obtain ⟨v, t⟩ := x
    rw [hp] at h3
    obtain ⟨q, a1, a2, a3, B, a4⟩ := h3
    have h4 := k v q t a1 a2
    show match f v t with
      | .ok (v, t) => T v ∧ On t.ts ∧ On t.asked ∧ t.ts.length ≤ s.ts.length ∧ ∃ B, t.asked = s.asked ++ B
      | .error f => 0 < f.line
    cases hf : f v t with
    | error e => rw [hf] at h4; exact h4
    | ok y =>
      obtain ⟨w, u⟩ := y
      rw [hf] at h4
      obtain ⟨q2, b1, b2, b3, C, b4⟩ := h4
      exact ⟨q2, b1, b2, Nat.le_trans b3 a3, B ++ C, by rw [b4, a4, List.append_assoc]⟩
theorem Sy.mono {p : PM α} {Q T : α → Prop} (h : Sy p Q) (k : ∀ a, Q a → T a) : Sy p T := by
  intro s h1 h2
  have h3 := h s h1 h2
  cases hp : p s with
  | error e => rw [hp] at h3; exact h3
  | ok x => rw [hp] at h3; exact ⟨k _ h3.1, h3.2⟩
theorem Sy.pure {a : α} {Q : α → Prop} (h : Q a) : Sy (Pure.pure a) Q := fun s h1 h2 => ⟨h, h1, h2, Nat.le_refl _, [], (List.append_nil _).symm⟩
theorem Sy.bad {c : Nat} {t : Tok} {Q : α → Prop} (h : 0 < t.line) : Sy (qBad c t) Q := fun s h1 h2 => h
theorem Sy.ite {c : Prop} [Decidable c] {p q : PM α} {Q : α → Prop} (h : c → Sy p Q) (k : ¬ c → Sy q Q) : Sy (if c then p else q) Q := by
  by_cases hc : c
  · rw [if_pos hc]; exact h hc
  · rw [if_neg hc]; exact k hc
end
def Any {α : Type} (_ : α) : Prop := True
def Ln (t : Tok) : Prop := 0 < t.line
section
variable {en : Tok} (he : Ln en)
include he
theorem next_st : Sy (qNext en) Ln := fun s h1 h2 => by
  refine ⟨?_, h1, h2, Nat.le_refl _, [], (List.append_nil _).symm⟩
  show 0 < (s.ts.head?.getD en).line
  cases hs : s.ts with
  | nil => exact he
  | cons x l => exact h1 x (by rw [hs]; exact List.mem_cons_self ..)
omit he in
theorem pass_st : Sy qPass Any := fun s h1 h2 => ⟨trivial, fun t ht => h1 t (List.mem_of_mem_tail ht), h2, by show s.ts.tail.length ≤ _; rw [List.length_tail]; omega, [], (List.append_nil _).symm⟩
omit he in
theorem ask_st {t : Tok} (ht : Ln t) : Sy (qAsk t) Any := fun s h1 h2 => ⟨trivial, h1, fun x hx => by
  rcases List.mem_append.1 hx with hx | hx
  · exact h2 x hx
  · rw [List.mem_singleton.1 hx]; exact ht, Nat.le_refl _, [t], rfl⟩
omit he in
theorem get_st : Sy (get : PM PS) Any := fun s h1 h2 => ⟨trivial, h1, h2, Nat.le_refl _, [], (List.append_nil _).symm⟩
theorem passed_st (k : Nat) (b : Tx) : Sy (qPassed en k b) Any := by
  unfold qPassed
  exact Sy.bind (next_st he) fun t ht => Sy.ite (fun _ => Sy.bind pass_st fun _ _ => Sy.pure trivial) fun _ => Sy.pure trivial
theorem want_st (k : Nat) : Sy (qWant en k) Ln := by
  unfold qWant
  exact Sy.bind (next_st he) fun t ht => Sy.ite (fun _ => Sy.bind pass_st fun _ _ => Sy.pure ht) fun _ => Sy.bad ht
theorem this_st (k : Nat) (b : Tx) : Sy (qThis en k b) Any := by
  unfold qThis
  exact Sy.bind (next_st he) fun t ht => Sy.ite (fun _ => pass_st) fun _ => Sy.bad ht
theorem mark_st (c : UInt8) : Sy (qMark en c) Any := this_st he 5 [c]
theorem lineEnd_st : Sy (qLineEnd en) Any := by
  unfold qLineEnd
  exact Sy.bind (want_st he 6) fun _ _ => Sy.pure trivial
theorem type_st : Sy (qType en) Any := by
  unfold qType
  refine Sy.bind (want_st he 1) fun t ht => ?_
  split
  · exact Sy.pure trivial
  · exact Sy.bad ht
theorem size_st : Sy (qSize en) Any := by
  unfold qSize
  exact Sy.bind (want_st he 2) fun t ht => Sy.ite (fun _ => Sy.bad ht) fun _ => Sy.pure trivial
theorem block_st : Sy (qBlock en) Any := by
  unfold qBlock
  refine Sy.bind (next_st he) fun t ht => ?_
  split
  · exact Sy.bind pass_st fun _ _ => Sy.pure trivial
  · exact Sy.bad ht
theorem more_st {α : Type} {item : List α → PM α} (hi : ∀ acc, Sy (item acc) Any) : ∀ (k : Nat) (acc : List α), Sy (qMore en item k acc) Any
  | 0, acc => Sy.pure trivial
  | k + 1, acc => by
    unfold qMore
    exact Sy.bind (passed_st he 5 [44]) fun b _ => Sy.ite (fun _ => Sy.bind (hi acc) fun a _ => more_st hi k _) fun _ => Sy.pure trivial
theorem commas_st {α : Type} {item : List α → PM α} (hi : ∀ acc, Sy (item acc) Any) : Sy (qCommas en item) Any := by
  unfold qCommas
  exact Sy.bind (hi []) fun a _ => Sy.bind get_st fun s _ => more_st he hi _ _
theorem brackets_st {α : Type} {item : List α → PM α} (hi : ∀ acc, Sy (item acc) Any) : Sy (qBrackets en item) Any := by
  unfold qBrackets
  exact Sy.bind (mark_st he 40) fun _ _ => Sy.bind (passed_st he 5 [41]) fun b _ => Sy.ite (fun _ => Sy.pure trivial) fun _ => Sy.bind (commas_st he hi) fun l _ => Sy.bind (mark_st he 41) fun _ _ => Sy.pure trivial
theorem operand_st : Sy (qOperand en) Any := by
  unfold qOperand
  refine Sy.bind (next_st he) fun t ht => ?_
  exact Sy.ite (fun h => Sy.bind pass_st fun _ _ => Sy.pure trivial) fun _ => Sy.ite (fun h => Sy.bind pass_st fun _ _ => Sy.pure trivial) fun _ => Sy.ite (fun h => Sy.bind (ask_st ht) fun n _ => Sy.bind pass_st fun _ _ => Sy.pure trivial) fun _ => Sy.ite (fun h => Sy.bind pass_st fun _ _ => Sy.pure trivial) fun _ => Sy.ite (fun h => Sy.bind pass_st fun _ _ => Sy.pure trivial) fun _ => Sy.bad ht
theorem operands_st : ∀ n, Sy (qOperands en n) Any
  | 0 => Sy.pure trivial
  | 1 => Sy.bind (operand_st he) fun a _ => Sy.pure trivial
  | k + 2 => by
    unfold qOperands
    exact Sy.bind (operand_st he) fun a _ => Sy.bind (mark_st he 44) fun _ _ => Sy.bind (operands_st (k + 1)) fun l _ => Sy.pure trivial
theorem flags_st : Sy (qFlags en) Any := by
  unfold qFlags
  exact Sy.bind (passed_st he _ _) fun _ _ => Sy.bind (passed_st he _ _) fun _ _ => Sy.bind (passed_st he _ _) fun _ _ => Sy.pure trivial
theorem typed_st (x : PIns) (n : Nat) : Sy (qTyped en x n) Any := by
  unfold qTyped
  exact Sy.bind (type_st he) fun t _ => Sy.bind (operands_st he n) fun l _ => Sy.pure trivial
theorem form_st (x : PIns) : Sy (qForm en x) Any := by
  unfold qForm
  refine Sy.ite (fun _ => Sy.bind (type_st he) fun n _ => Sy.bind (operand_st he) fun a _ => Sy.bind (this_st he _ _) fun _ _ => Sy.bind (type_st he) fun t _ => Sy.pure trivial) fun _ => ?_
  refine Sy.ite (fun c => typed_st he _ 3) fun _ => ?_
  refine Sy.ite (fun c => typed_st he _ 1) fun _ => ?_
  refine Sy.ite (fun c => Sy.bind (type_st he) fun t _ => Sy.bind (next_st he) fun p _ => Sy.ite (fun _ => Sy.pure trivial) fun _ => Sy.bind (commas_st he fun _ => Sy.bind (block_st he) fun b _ => Sy.bind (operand_st he) fun a _ => Sy.pure (Q := Any) trivial) fun l _ => Sy.pure trivial) fun _ => ?_
  refine Sy.ite (fun c => Sy.bind (size_st he) fun n _ => Sy.pure trivial) fun _ => ?_
  refine Sy.ite (fun c => Sy.bind (operands_st he 2) fun l _ => Sy.pure trivial) fun _ => ?_
  refine Sy.ite (fun c => Sy.bind (want_st he 1) fun t ht => Sy.bind (ask_st ht) fun n _ => Sy.bind (brackets_st he fun _ => operand_st he) fun l _ => Sy.pure trivial) fun _ => ?_
  refine Sy.ite (fun c => Sy.bind (operand_st he) fun a _ => Sy.bind (mark_st he _) fun _ _ => Sy.bind (block_st he) fun b _ => Sy.bind (mark_st he _) fun _ _ => Sy.bind (block_st he) fun d _ => Sy.pure trivial) fun _ => ?_
  refine Sy.ite (fun c => Sy.bind (block_st he) fun b _ => Sy.pure trivial) fun _ => ?_
  refine Sy.ite (fun c => Sy.bind (next_st he) fun p _ => Sy.ite (fun _ => Sy.pure trivial) fun _ => typed_st he _ 1) fun _ => ?_
  refine Sy.ite (fun c => Sy.pure trivial) fun _ => ?_
  by_cases c : x.op ≤ 13
  · simp only [if_pos c]
    exact Sy.bind (flags_st he) fun fl _ => typed_st he _ 2
  · simp only [if_neg c]
    exact Sy.bind (Sy.pure (Q := Any) trivial) fun fl _ => typed_st he _ 2
theorem instr_st : Sy (qInstr en) Any := by
  unfold qInstr
  refine Sy.bind (next_st he) fun p _ => ?_
  have main : ∀ r : Int, Sy (do
      let w ← qNext en
      let op := opOfP w
      if ¬ (op = 30 ∨ op ≠ 0 ∧ idleB op = decide (0 ≤ r)) then qBad 3 w
      qPass
      let x ← qForm en ⟨op, r, 0, 0, 0, [], []⟩
      qLineEnd en
      return x) Any := fun r => by
    refine Sy.bind (next_st he) fun w hw => ?_
    exact Sy.ite (fun _ => Sy.bind (Q := fun _ => False) (Sy.bad hw) fun _ h => h.elim) fun hc => Sy.bind pass_st fun _ _ => Sy.bind (form_st he _) fun x _ => Sy.bind (lineEnd_st he) fun _ _ => Sy.pure trivial
  by_cases c : (p.kind == 3) = true
  · simp only [if_pos c]
    exact Sy.bind (Q := Any) (Sy.bind pass_st fun _ _ => Sy.bind (mark_st he _) fun _ _ => Sy.pure trivial) fun r _ => main r
  · simp only [if_neg c]
    exact Sy.bind (Q := Any) (Sy.pure trivial) fun r _ => main r
omit he in
theorem get_on : Sy (get : PM PS) (fun s => On s.ts) := fun s h1 h2 => ⟨h1, h1, h2, Nat.le_refl _, [], (List.append_nil _).symm⟩
theorem label_st {front : Tok} (hf : Ln front) (bs : List (List PIns)) (n : Nat) : Sy (qLabel en front bs n) Any := by
  unfold qLabel
  refine Sy.ite (fun _ => Sy.bind (Q := fun _ => False) (Sy.bad hf) fun _ h => h.elim) fun hc => Sy.ite (fun _ => Sy.bind (Q := fun _ => False) (Sy.bad hf) fun _ h => h.elim) fun _ => ?_
  exact Sy.bind pass_st fun _ _ => Sy.bind (this_st he _ _) fun _ _ => lineEnd_st he
theorem body_st : ∀ (k : Nat) (bs : List (List PIns)), Sy (qBody en k bs) Any
  | 0, bs => Sy.bad he
  | k + 1, bs => by
    unfold qBody
    refine Sy.bind get_on fun s hs => ?_
    split
    · exact Sy.bad he
    rename_i front rest hts
    have hf : Ln front := hs front (by rw [hts]; exact List.mem_cons_self ..)
    refine Sy.ite (fun _ => Sy.bind pass_st fun _ _ => body_st k bs) fun _ => ?_
    split
    · rename_i n hn
      exact Sy.bind (label_st he hf bs n) fun _ hl => body_st k _
    · exact Sy.ite (fun _ => Sy.bad hf) fun h0 => Sy.ite (fun _ => Sy.bind pass_st fun _ _ => Sy.bind (lineEnd_st he) fun _ _ => Sy.pure trivial) fun _ => Sy.ite (fun _ => Sy.bad hf) fun h4 => Sy.bind (instr_st he) fun x hx => body_st k _
theorem types_st : Sy (qTypes en) Any := by
  unfold qTypes
  refine Sy.bind (brackets_st he fun acc => ?_) fun l hl => Sy.bind (type_st he) fun r hr => Sy.pure trivial
  exact Sy.bind (next_st he) fun p hp => Sy.bind (type_st he) fun t ht => Sy.ite (fun _ => Sy.bind (Q := fun _ => False) (Sy.bad hp) fun _ h => h.elim) fun hc => Sy.pure trivial
theorem name_st (full told : Tx → Bool) : Sy (qName en full told) (fun nm => told (byt nm) = false) := by
  unfold qName
  exact Sy.bind (want_st he 1) fun t ht => Sy.ite (fun _ => Sy.bind (Q := fun _ => False) (Sy.bad ht) fun _ h => h.elim) fun h1 => Sy.ite (fun _ => Sy.bind (Q := fun _ => False) (Sy.bad ht) fun _ h => h.elim) fun h2 => Sy.pure (by simpa [byt] using h2)
end
/-- A module that goes on from another one; no extern that is new has the name of a function that was there. -/
def Ext (m n : PMod) : Prop := ∃ V X F, n.vs = m.vs ++ V ∧ n.xs = m.xs ++ X ∧ n.fs = m.fs ++ F ∧ ∀ x ∈ X, ∀ f ∈ m.fs, byt x.nm ≠ byt f.nm
theorem Ext.refl (m : PMod) : Ext m m := ⟨[], [], [], by simp, by simp, by simp, fun x hx => by cases hx⟩
theorem Ext.trans {a b c : PMod} (h : Ext a b) (k : Ext b c) : Ext a c := by
  obtain ⟨V, X, F, h1, h2, h3, h4⟩ := h
  obtain ⟨V', X', F', k1, k2, k3, k4⟩ := k
  refine ⟨V ++ V', X ++ X', F ++ F', by rw [k1, h1, List.append_assoc], by rw [k2, h2, List.append_assoc], by rw [k3, h3, List.append_assoc], fun x hx f hf => ?_⟩
  rcases List.mem_append.1 hx with hx | hx
  · exact h4 x hx f hf
  · exact k4 x hx f (by rw [h3]; exact List.mem_append_left _ hf)
theorem lines_st {en : Tok} (he : Ln en) : ∀ (k : Nat) (m : PMod), Sy (qLines en k m) (Ext m)
  | 0, m => Sy.pure (Ext.refl m)
  | k + 1, m => by
    unfold qLines
    refine Sy.bind get_on fun s hs => ?_
    split
    · exact Sy.pure (Ext.refl m)
    rename_i front rest hts
    have hf : Ln front := hs front (by rw [hts]; exact List.mem_cons_self ..)
    refine Sy.ite (fun _ => Sy.bind pass_st fun _ _ => lines_st he k m) fun _ => ?_
    refine Sy.ite (fun _ => Sy.bind pass_st fun _ _ => Sy.bind (name_st he _ _) fun nm hn => Sy.bind (size_st he) fun n _ => Sy.bind (lineEnd_st he) fun _ _ => (lines_st he k _).mono fun q hq => Ext.trans ⟨[⟨nm, n⟩], [], [], rfl, by simp, by simp, fun x hx => by cases hx⟩ hq) fun _ => ?_
    refine Sy.ite (fun _ => Sy.bind pass_st fun _ _ => Sy.bind (name_st he _ _) fun nm hn => Sy.bind (types_st he) fun p _ => ?_) fun _ => ?_
    · exact Sy.bind (lineEnd_st he) fun _ _ => (lines_st he k _).mono fun q hq => Ext.trans ⟨[], [⟨nm, p.1, p.2⟩], [], by simp, rfl, by simp, fun x hx f hf e => by
        rw [List.mem_singleton.1 hx] at e
        unfold hasCal at hn
        rw [Bool.or_eq_false_iff] at hn
        have := List.any_eq_false.1 hn.2 f hf
        exact this (by simpa using e.symm)⟩ hq
    refine Sy.ite (fun _ => Sy.bind pass_st fun _ _ => Sy.bind (name_st he _ _) fun nm hn => Sy.bind (types_st he) fun p _ => ?_) fun _ => Sy.bad hf
    exact Sy.bind (lineEnd_st he) fun _ _ => Sy.bind get_st fun s _ => Sy.bind (body_st he _ _) fun bs _ => (lines_st he k _).mono fun q hq => Ext.trans ⟨[], [], [⟨nm, p.1, p.2, bs⟩], by simp, by simp, rfl, fun x hx => by cases hx⟩ hq
end Go.Proofs.YtjomihlnjobndaaGreatDoor
