/- Two texts with the same pieces, but for more ends of lines: functions and modules. No program here. -/
import Derived.Test.YtjomihlnjobndaaGreatDoorPsRelCM
namespace Go.Proofs.YtjomihlnjobndaaGreatDoor
set_option linter.unusedVariables false
set_option linter.unusedSimpArgs false
set_option linter.unusedSectionVars false

def bodyC (en : Tok) (k : Nat) (bs : List (List PIns)) (front : Tok) : PM (List (List PIns)) :=
  if isTk 6 [] front then (do qPass; qBody en k bs)
  else match blockOfP front with
    | some j => do qLabel en front bs j; qBody en k (bs ++ [[]])
    | none =>
      if bs.length = 0 then qBad 3 front
      else if isTk 1 [101, 110, 100] front then (do qPass; qLineEnd en; return bs)
      else if bs.flatten.length = 400 then qBad 6 front
      else do
        let x ← qInstr en
        qBody en k (addLast bs x)
theorem body_nil {en : Tok} {k : Nat} {bs : List (List PIns)} {s : PS} (h : s.ts = []) : qBody en (k + 1) bs s = .error (fltAt 3 en) := by
  unfold qBody
  show (match s.ts with
    | [] => qBad 3 en
    | front :: _ => bodyC en k bs front) s = _
  rw [h]
  rfl
theorem body_cons {en : Tok} {k : Nat} {bs : List (List PIns)} {s : PS} {t : Tok} {l : List Tok} (h : s.ts = t :: l) : qBody en (k + 1) bs s = bodyC en k bs t s := by
  unfold qBody
  show (match s.ts with
    | [] => qBad 3 en
    | front :: _ => bodyC en k bs front) s = _
  rw [h]
theorem bodyC_end {en : Tok} {k : Nat} {bs : List (List PIns)} {s : PS} {t : Tok} {l : List Tok} (h : s.ts = t :: l) (hc : isTk 6 [] t = true) : bodyC en k bs t s = qBody en k bs { s with ts := l } := by
  unfold bodyC
  rw [if_pos hc]
  show qBody en k bs { s with ts := s.ts.tail } = _
  rw [h]
  rfl
section
variable {en en' : Tok} (he : sameT en en') (hk : en.kind = 6)
include he hk
theorem body_rl : ∀ (N k k' n n' : Nat) (bs : List (List PIns)), k + k' ≤ N → n < k → n' < k' → Rl (qBody en k bs) (qBody en' k' bs) (Ls n n') (Lq n n')
  | 0, k, k', n, n', bs, h, h1, h2 => absurd h1 (by omega)
  | N + 1, 0, k', n, n', bs, h, h1, h2 => absurd h1 (Nat.not_lt_zero _)
  | N + 1, k + 1, 0, n, n', bs, h, h1, h2 => absurd h2 (Nat.not_lt_zero _)
  | N + 1, k + 1, k' + 1, n, n', bs, h, h1, h2 => by
    intro s s' hs
    obtain ⟨hd, ha, l1, l2⟩ := hs
    rcases hd with hw | ⟨u, r, e, hu, hw⟩
    · cases hl : s.ts with
      | nil =>
        rw [hl] at hw
        cases hl' : s'.ts with
        | nil => rw [body_nil hl, body_nil hl']; rfl
        | cons y l' => rw [hl'] at hw; cases hw
      | cons t l =>
        cases hl' : s'.ts with
        | nil => rw [hl, hl'] at hw; cases hw
        | cons t' l' =>
          rw [body_cons hl, body_cons hl']
          have hsame : sameT t t' := by
            rw [hl, hl'] at hw
            cases hw with
            | one h _ => exact h
            | more _ h _ _ => exact h
          have k1 : l.length + 1 ≤ n := by rw [hl] at l1; simpa using l1
          have k2 : l'.length + 1 ≤ n' := by rw [hl'] at l2; simpa using l2
          by_cases hc : isTk 6 [] t = true
          · rw [bodyC_end hl hc, bodyC_end hl' (by rw [← isTk_same hsame]; exact hc)]
            refine (body_rl N k k' (n - 1) (n' - 1) bs (by omega) (by omega) (by omega) { s with ts := l } { s' with ts := l' } ⟨?_, ha, by show l.length ≤ n - 1; omega, by show l'.length ≤ n' - 1; omega⟩).mono fun _ _ _ _ q => ⟨q.1, q.2.mono (Nat.sub_le _ _) (Nat.sub_le _ _)⟩
            rw [hl, hl'] at hw
            cases hw with
            | one _ h => exact .inl h
            | more k _ hu h => exact .inr ⟨_, _, rfl, by rw [← isTk_same hu]; exact k, h⟩
          · have hH : Hd n n' en en' t t' s s' := ⟨⟨hw, ha, l1, l2⟩, hsame, by rw [hl]; rfl, by rw [hl']; rfl⟩
            have C : Rl (bodyC en k bs t) (bodyC en' k' bs t') (Hd n n' en en' t t') (Lq n n') := by
              unfold bodyC
              refine Rl.ite (by rw [isTk_same hsame]) (fun c => absurd c hc) fun _ => ?_
              have eb : blockOfP t' = blockOfP t := by unfold blockOfP; rw [hsame.1, hsame.2]
              rw [eb]
              split
              · rename_i j hj
                refine Rl.bind (label_rl he hk hj bs) fun _ _ => ?_
                intro s s' q
                exact (body_rl N k k' (n - 1) (n' - 1) _ (by omega) (by omega) (by omega) s s' q.1).mono fun _ _ _ _ q => ⟨q.1, q.2.mono (Nat.sub_le _ _) (Nat.sub_le _ _)⟩
              · refine Rl.ite Iff.rfl (fun _ => Rl.bad) fun _ => Rl.ite (by rw [isTk_same hsame]) (fun c => ?_) fun _ => Rl.ite Iff.rfl (fun _ => Rl.bad) fun _ => ?_
                · exact Rl.bind (pass_rl2 (by rw [isTk_kind c]; decide) hk) fun _ _ => Rl.eqsL he hk (lineEnd_rl he hk) fun _ => Rl.pure fun s s' h => ⟨rfl, h⟩
                · refine Rl.bind ((instr_rl he hk).pre fun s s' h => h.1) fun x x' => Rl.of (fun ex => ?_) (fun s s' h => h.1)
                  subst ex
                  intro s s' q
                  exact (body_rl N k k' (n - 1) (n' - 1) _ (by omega) (by omega) (by omega) s s' q.2.1).mono fun _ _ _ _ q => ⟨q.1, q.2.mono (Nat.sub_le _ _) (Nat.sub_le _ _)⟩
            exact C s s' hH
    · rw [body_cons e, bodyC_end e hu]
      have k2 : r.length + 1 ≤ n' := by rw [e] at l2; simpa using l2
      exact (body_rl N (k + 1) k' n (n' - 1) bs (by omega) (by omega) (by omega) s { s' with ts := r } ⟨.inl hw, ha, l1, by show r.length ≤ n' - 1; omega⟩).mono fun _ _ _ _ q => ⟨q.1, q.2.mono (Nat.le_refl _) (Nat.sub_le _ _)⟩
theorem types_rl {n n' : Nat} : Rl (qTypes en) (qTypes en') (W2 n n') (Eqs n n') := by
  unfold qTypes
  refine Rl.eqs (brackets_rl he hk fun a b acc => ?_) fun l => Rl.eqs (type_rl he hk) fun r => Rl.ret
  refine Rl.bind (next_rl he) fun p p' => Rl.eqs ((type_rl he hk).pre fun s s' h => h.1) fun t => Rl.ite Iff.rfl (fun _ => Rl.bind (Q := fun _ _ _ _ => False) Rl.bad fun _ _ => Rl.of (fun h => h.elim) fun _ _ h => h) (fun _ => Rl.ret)
theorem name_rl {n n' : Nat} (full told : Tx → Bool) : Rl (qName en full told) (qName en' full told) (W2 n n') (Eqs n n') := by
  unfold qName
  refine Rl.bind (want_rl he hk (by decide)) fun t t' => Rl.of (fun hs => ?_) (fun s s' h => h.1)
  rw [hs.2]
  refine Rl.ite Iff.rfl (fun _ => Rl.bind (Q := fun _ _ _ _ => False) Rl.bad fun _ _ => Rl.of (fun h => h.elim) fun _ _ h => h) fun _ => Rl.ite Iff.rfl (fun _ => Rl.bind (Q := fun _ _ _ _ => False) Rl.bad fun _ _ => Rl.of (fun h => h.elim) fun _ _ h => h) fun _ => Rl.pure fun s s' h => ⟨rfl, h.2⟩
end
end Go.Proofs.YtjomihlnjobndaaGreatDoor
