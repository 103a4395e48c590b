/- Two texts with the same pieces, but for more ends of lines: instructions. No program here. -/
import Derived.Test.YtjomihlnjobndaaGreatDoorMg19
namespace Go.Proofs.YtjomihlnjobndaaGreatDoor
set_option linter.unusedVariables false
set_option linter.unusedSimpArgs false
set_option linter.unusedSectionVars false

/-- Answers that are the same go on alike. -/
theorem Rl.eqs {α β : Type} {n n' : Nat} {R : PS → PS → Prop} {p p' : PM α} {f f' : α → PM β} {T : β → β → PS → PS → Prop} (h : Rl p p' R (Eqs n n')) (k : ∀ a, Rl (f a) (f' a) (W2 n n') T) : Rl (p >>= f) (p' >>= f') R T :=
  Rl.bind h fun a a' => Rl.of (fun e => by subst e; exact (k a).pre fun s s' h => h.2) (fun s s' h => h.1)
theorem Rl.ret {α : Type} {n n' : Nat} {a : α} : Rl (Pure.pure a) (Pure.pure a) (W2 n n') (Eqs n n') := Rl.pure fun s s' h => ⟨rfl, h⟩
theorem ask_rl {n n' : Nat} {t t' : Tok} (h : sameT t t') : Rl (qAsk t) (qAsk t') (W2 n n') (Eqs n n') := by
  intro s s' hs
  have hl : s.asked.length = s'.asked.length := by
    have := congrArg List.length hs.2.1
    simpa using this
  show Eqs n n' (s.asked.length : Int) (s'.asked.length : Int) { s with asked := s.asked ++ [t] } { s' with asked := s'.asked ++ [t'] }
  refine ⟨by rw [hl], hs.1, ?_, hs.2.2.1, hs.2.2.2⟩
  show (s.asked ++ [t]).map keyT = (s'.asked ++ [t']).map keyT
  rw [List.map_append, List.map_append, hs.2.1]
  simp [keyT, h.1, h.2]
section
variable {n n' : Nat} {en en' : Tok} (he : sameT en en') (hk : en.kind = 6)
include he hk
theorem brackets_rl {α : Type} {item item' : List α → PM α} (hi : ∀ (n n' : Nat) acc, Rl (item acc) (item' acc) (W2 n n') (Eqs n n')) : Rl (qBrackets en item) (qBrackets en' item') (W2 n n') (Eqs n n') := by
  unfold qBrackets
  exact Rl.eqs (this_rl he hk (by decide) _) fun _ => Rl.eqs (passed_rl he hk (by decide) _) fun b => Rl.ite Iff.rfl (fun _ => Rl.ret) fun _ => Rl.eqs (commas_rl he hk hi) fun l => Rl.eqs (this_rl he hk (by decide) _) fun _ => Rl.ret
theorem operand_rl : Rl (qOperand en) (qOperand en') (W2 n n') (Eqs n n') := by
  unfold qOperand
  refine Rl.bind (next_rl he) fun t t' => Rl.of (fun hs => ?_) (fun s s' h => h.2.1)
  refine Rl.ite (by rw [hs.1]) (fun hc => ?_) fun _ => Rl.ite (by rw [hs.1]) (fun hc => ?_) fun _ => Rl.ite (by rw [hs.1]) (fun hc => ?_) fun _ => Rl.ite (by rw [isTk_same hs]) (fun hc => ?_) fun _ => Rl.ite (by rw [isTk_same hs]) (fun hc => ?_) fun _ => Rl.bad
  · have e : t.kind = 3 := by simpa using hc
    rw [num_same hs]
    exact Rl.bind (pass_rl2 (by rw [e]; decide) hk) fun _ _ => Rl.ret
  · have e : t.kind = 2 := by simpa using hc
    rw [num_same hs]
    exact Rl.bind (pass_rl2 (by rw [e]; decide) hk) fun _ _ => Rl.ret
  · have e : t.kind = 4 := by simpa using hc
    have ha : Rl (qAsk t) (qAsk t') (Hd n n' en en' t t') (fun a a' s s' => a = a' ∧ Hd n n' en en' t t' s s') := by
      intro s s' h
      have h1 := ask_rl (n := n) (n' := n') hs s s' h.1
      show (s.asked.length : Int) = (s'.asked.length : Int) ∧ Hd n n' en en' t t' { s with asked := s.asked ++ [t] } { s' with asked := s'.asked ++ [t'] }
      exact ⟨h1.1, h1.2, h.2⟩
    refine Rl.bind ha fun a a' => Rl.of (fun e2 => ?_) (fun s s' h => h.1)
    subst e2
    exact Rl.bind ((pass_rl2 (by rw [e]; decide) hk).pre fun s s' h => h.2) fun _ _ => Rl.ret
  · exact Rl.bind (pass_rl2 (by rw [isTk_kind hc]; decide) hk) fun _ _ => Rl.ret
  · exact Rl.bind (pass_rl2 (by rw [isTk_kind hc]; decide) hk) fun _ _ => Rl.ret
theorem operands_rl : ∀ k, Rl (qOperands en k) (qOperands en' k) (W2 n n') (Eqs n n')
  | 0 => Rl.ret
  | 1 => by
    unfold qOperands
    exact Rl.eqs (operand_rl he hk) fun a => Rl.ret
  | k + 2 => by
    unfold qOperands
    exact Rl.eqs (operand_rl he hk) fun a => Rl.eqs (this_rl he hk (by decide) _) fun _ => Rl.eqs (operands_rl (k + 1)) fun l => Rl.ret
theorem flags_rl : Rl (qFlags en) (qFlags en') (W2 n n') (Eqs n n') := by
  unfold qFlags
  exact Rl.eqs (passed_rl he hk (by decide) _) fun a => Rl.eqs (passed_rl he hk (by decide) _) fun b => Rl.eqs (passed_rl he hk (by decide) _) fun c => Rl.ret
theorem typed_rl (x : PIns) (k : Nat) : Rl (qTyped en x k) (qTyped en' x k) (W2 n n') (Eqs n n') := by
  unfold qTyped
  exact Rl.eqs (type_rl he hk) fun t => Rl.eqs (operands_rl he hk k) fun l => Rl.ret
theorem form_rl (x : PIns) : Rl (qForm en x) (qForm en' x) (W2 n n') (Eqs n n') := by
  unfold qForm
  refine Rl.ite Iff.rfl (fun _ => Rl.eqs (type_rl he hk) fun m => Rl.eqs (operand_rl he hk) fun a => Rl.eqs (this_rl he hk (by decide) _) fun _ => Rl.eqs (type_rl he hk) fun t => Rl.ret) fun _ => ?_
  refine Rl.ite Iff.rfl (fun _ => typed_rl he hk x 3) fun _ => ?_
  refine Rl.ite Iff.rfl (fun _ => typed_rl he hk x 1) fun _ => ?_
  refine Rl.ite Iff.rfl (fun _ => Rl.eqs (type_rl he hk) fun t => Rl.bind (next_rl he) fun p p' => Rl.of (fun hs => Rl.ite (by rw [hs.1]) (fun _ => Rl.pure fun s s' h => ⟨rfl, h.1⟩) fun _ => Rl.eqs ((commas_rl he hk fun _ _ _ => Rl.eqs (block_rl he hk) fun b => Rl.eqs (operand_rl he hk) fun a => Rl.ret).pre fun s s' h => h.1) fun l => Rl.ret) (fun s s' h => h.2.1)) fun _ => ?_
  refine Rl.ite Iff.rfl (fun _ => Rl.eqs (size_rl he hk) fun m => Rl.ret) fun _ => ?_
  refine Rl.ite Iff.rfl (fun _ => Rl.eqs (operands_rl he hk 2) fun l => Rl.ret) fun _ => ?_
  refine Rl.ite Iff.rfl (fun _ => Rl.bind (want_rl he hk (by decide)) fun t t' => Rl.of (fun hs => Rl.eqs ((ask_rl hs).pre fun s s' h => h.2) fun m => Rl.eqs (brackets_rl he hk fun _ _ _ => operand_rl he hk) fun l => Rl.ret) (fun s s' h => h.1)) fun _ => ?_
  refine Rl.ite Iff.rfl (fun _ => Rl.eqs (operand_rl he hk) fun a => Rl.eqs (this_rl he hk (by decide) _) fun _ => Rl.eqs (block_rl he hk) fun b => Rl.eqs (this_rl he hk (by decide) _) fun _ => Rl.eqs (block_rl he hk) fun c => Rl.ret) fun _ => ?_
  refine Rl.ite Iff.rfl (fun _ => Rl.eqs (block_rl he hk) fun b => Rl.ret) fun _ => ?_
  refine Rl.ite Iff.rfl (fun _ => Rl.bind (next_rl he) fun p p' => Rl.of (fun hs => Rl.ite (by rw [hs.1]) (fun _ => Rl.pure fun s s' h => ⟨rfl, h.1⟩) fun _ => (typed_rl he hk x 1).pre fun s s' h => h.1) (fun s s' h => h.2.1)) fun _ => ?_
  refine Rl.ite Iff.rfl (fun _ => Rl.ret) fun _ => ?_
  by_cases c : x.op ≤ 13
  · simp only [if_pos c]
    exact Rl.eqs (flags_rl he hk) fun fl => typed_rl he hk { x with fl := fl } 2
  · simp only [if_neg c]
    exact Rl.eqs Rl.ret fun fl => typed_rl he hk { x with fl := fl } 2
end
end Go.Proofs.YtjomihlnjobndaaGreatDoor
