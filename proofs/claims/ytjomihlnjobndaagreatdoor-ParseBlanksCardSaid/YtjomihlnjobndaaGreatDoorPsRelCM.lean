/- Two texts with the same pieces, but for more ends of lines: whole lines. No program here. -/
import Derived.Test.YtjomihlnjobndaaGreatDoorPsRelBM
namespace Go.Proofs.YtjomihlnjobndaaGreatDoor
set_option linter.unusedVariables false
set_option linter.unusedSimpArgs false
set_option linter.unusedSectionVars false

/-- Where a line begins: one end more may stand. -/
def Ls (n n' : Nat) (s s' : PS) : Prop :=
  (Wd s.ts s'.ts ∨ ∃ u r, s'.ts = u :: r ∧ isTk 6 [] u = true ∧ Wd s.ts r) ∧ s.asked.map keyT = s'.asked.map keyT ∧ s.ts.length ≤ n ∧ s'.ts.length ≤ n'
theorem Ls.mono {n n' k k' : Nat} {s s' : PS} (h : Ls n n' s s') (h1 : n ≤ k) (h2 : n' ≤ k') : Ls k k' s s' := ⟨h.1, h.2.1, Nat.le_trans h.2.2.1 h1, Nat.le_trans h.2.2.2 h2⟩
theorem W2.ls {n n' : Nat} {s s' : PS} (h : W2 n n' s s') : Ls n n' s s' := ⟨.inl h.1, h.2.1, h.2.2.1, h.2.2.2⟩
def Lq (n n' : Nat) {α : Type} (a a' : α) (s s' : PS) : Prop := a = a' ∧ Ls n n' s s'
section
variable {n n' : Nat} {en en' : Tok} (he : sameT en en') (hk : en.kind = 6)
include he hk
theorem lineEnd_rl : Rl (qLineEnd en) (qLineEnd en') (W2 n n') (Lq n n') := by
  unfold qLineEnd qWant
  refine Rl.bind (Q := fun _ _ => Ls n n') (Rl.bind (next_rl he) fun t t' => Rl.of (fun hs => Rl.ite (by rw [hs.1]) (fun _ => ?_) fun _ => Rl.bad) (fun s s' h => h.2.1)) fun _ _ => Rl.pure fun s s' h => ⟨rfl, h⟩
  have hp : Rl qPass qPass (Hd n n' en en' t t') (fun _ _ => Ls n n') := by
    intro s s' hs
    obtain ⟨⟨hw, ha, l1, l2⟩, _, h1, h2⟩ := hs
    show Ls n n' { s with ts := s.ts.tail } { s' with ts := s'.ts.tail }
    cases hl : s.ts with
    | nil =>
      rw [hl] at hw
      cases hl' : s'.ts with
      | nil => exact ⟨.inl Wd.nil, ha, Nat.zero_le _, Nat.zero_le _⟩
      | cons y l' => rw [hl'] at hw; cases hw
    | cons x l =>
      rw [hl] at hw l1
      rw [List.length_cons] at l1
      cases hl' : s'.ts with
      | nil => rw [hl'] at hw; cases hw
      | cons y l' =>
        rw [hl'] at hw l2
        rw [List.length_cons] at l2
        refine ⟨?_, ha, by show l.length ≤ n; omega, by show l'.length ≤ n'; omega⟩
        cases hw with
        | one _ h => exact .inl h
        | more k _ hu h => exact .inr ⟨_, _, rfl, by rw [← isTk_same hu]; exact k, h⟩
  exact Rl.bind hp fun _ _ => Rl.pure fun s s' h => h
theorem opOf_same {t t' : Tok} (h : sameT t t') : opOfP t = opOfP t' := by unfold opOfP; rw [h.1, h.2]
theorem Rl.eqsL {α β : Type} {n n' : Nat} {R : PS → PS → Prop} {p p' : PM α} {f f' : α → PM β} {T : β → β → PS → PS → Prop} (h : Rl p p' R (Lq n n')) (k : ∀ a, Rl (f a) (f' a) (Ls n n') T) : Rl (p >>= f) (p' >>= f') R T :=
  Rl.bind h fun a a' => Rl.of (fun e => by subst e; exact (k a).pre fun s s' h => h.2) (fun s s' h => h.1)
theorem instr_rl : Rl (qInstr en) (qInstr en') (W2 n n') (fun a a' s s' => a = a' ∧ Ls (n - 1) (n' - 1) s s' ∧ 0 < n ∧ 0 < n') := by
  unfold qInstr
  refine Rl.bind (next_rl he) fun p p' => Rl.of (fun hp => ?_) (fun s s' h => h.2.1)
  have main : ∀ r : Int, Rl (do
      let w ← qNext en
      let op := opOfP w
      if ¬ (op = 30 ∨ op ≠ 0 ∧ idleB op = decide (0 ≤ r)) then qBad 3 w
      qPass
      let x ← qForm en ⟨op, r, 0, 0, 0, [], []⟩
      qLineEnd en
      return x) (do
      let w ← qNext en'
      let op := opOfP w
      if ¬ (op = 30 ∨ op ≠ 0 ∧ idleB op = decide (0 ≤ r)) then qBad 3 w
      qPass
      let x ← qForm en' ⟨op, r, 0, 0, 0, [], []⟩
      qLineEnd en'
      return x) (W2 n n') (fun a a' s s' => a = a' ∧ Ls (n - 1) (n' - 1) s s' ∧ 0 < n ∧ 0 < n') := by
    intro r
    refine Rl.bind (next_rl he) fun w w' => Rl.of (fun hw => ?_) (fun s s' h => h.2.1)
    rw [opOf_same he hk hw]
    refine Rl.ite Iff.rfl (fun _ => Rl.bind (Q := fun _ _ _ _ => False) Rl.bad fun _ _ => Rl.of (fun h => h.elim) fun _ _ h => h) fun hc => ?_
    have h6 : w.kind ≠ 6 := fun e => by
      have : opOfP w' = 0 := by
        unfold opOfP
        rw [← hw.1, e]
        rfl
      rw [this] at hc
      exact hc (by simp)
    refine Rl.bind (pass_rl h6 hk) fun _ _ => Rl.of (P := 0 < n ∧ 0 < n') (fun hn => ?_) (fun s s' h => h.2)
    refine Rl.eqs ((form_rl he hk _).pre fun s s' h => h.1) fun x => Rl.eqsL he hk (lineEnd_rl he hk) fun _ => Rl.pure fun s s' h => ⟨rfl, h, hn⟩
  rw [hp.1]
  by_cases c : (p'.kind == 3) = true
  · have e : p.kind = 3 := by rw [hp.1]; simpa using c
    simp only [if_pos c]
    rw [num_same hp]
    exact Rl.eqs (n := n) (n' := n') (Rl.bind (pass_rl2 (by rw [e]; decide) hk) fun _ _ => Rl.eqs (this_rl he hk (by decide) _) fun _ => Rl.ret) main
  · simp only [if_neg c]
    exact Rl.eqs (n := n) (n' := n') (Rl.pure fun s s' h => ⟨rfl, h.1⟩) main
theorem label_rl {t t' : Tok} {j : Nat} (hj : blockOfP t = some j) (bs : List (List PIns)) : Rl (qLabel en t bs j) (qLabel en' t' bs j) (Hd n n' en en' t t') (fun _ _ s s' => Ls (n - 1) (n' - 1) s s' ∧ 0 < n ∧ 0 < n') := by
  have h6 : t.kind ≠ 6 := fun e => by
    unfold blockOfP at hj
    rw [e] at hj
    cases hj
  unfold qLabel
  refine Rl.ite Iff.rfl (fun _ => Rl.bind (Q := fun _ _ _ _ => False) Rl.bad fun _ _ => Rl.of (fun h => h.elim) fun _ _ h => h) fun _ => Rl.ite Iff.rfl (fun _ => Rl.bind (Q := fun _ _ _ _ => False) Rl.bad fun _ _ => Rl.of (fun h => h.elim) fun _ _ h => h) fun _ => ?_
  refine Rl.bind (pass_rl h6 hk) fun _ _ => Rl.of (P := 0 < n ∧ 0 < n') (fun hn => ?_) (fun s s' h => h.2)
  refine Rl.eqs ((this_rl he hk (by decide) _).pre fun s s' h => h.1) fun _ => ?_
  intro s s' h
  exact (lineEnd_rl he hk s s' h).mono fun _ _ _ _ h => ⟨h.2, hn⟩
end
end Go.Proofs.YtjomihlnjobndaaGreatDoor
