/- Two texts with the same pieces, but for more ends of lines, are read as one module, or refused for one reason (ParseBlanks, without the program). No program here. -/
import Derived.Test.YtjomihlnjobndaaGreatDoorPsRelDM
namespace Go.Proofs.YtjomihlnjobndaaGreatDoor
set_option linter.unusedVariables false
set_option linter.unusedSimpArgs false
set_option linter.unusedSectionVars false

def linesC (en : Tok) (k : Nat) (m : PMod) (front : Tok) : PM PMod :=
  if isTk 6 [] front then (do qPass; qLines en k m)
  else if isTk 1 [103, 108, 111, 98, 97, 108] front then do
    qPass
    let nm ← qName en (fun _ => m.vs.length == 8) (hasVar m)
    let n ← qSize en
    qLineEnd en
    qLines en k { m with vs := m.vs ++ [⟨nm, n⟩] }
  else if isTk 1 [101, 120, 116, 101, 114, 110] front then do
    qPass
    let nm ← qName en (fun _ => m.xs.length == 8) (hasCal m)
    let (ps, r) ← qTypes en
    qLineEnd en
    qLines en k { m with xs := m.xs ++ [⟨nm, ps, r⟩] }
  else if isTk 1 [102, 117, 110, 99] front then do
    qPass
    let nm ← qName en (fun _ => m.fs.length == 8) (hasCal m)
    let (ps, r) ← qTypes en
    qLineEnd en
    let s ← get
    let bs ← qBody en (s.ts.length + 1) []
    qLines en k { m with fs := m.fs ++ [⟨nm, ps, r, bs⟩] }
  else qBad 3 front
theorem lines_nil {en : Tok} {k : Nat} {m : PMod} {s : PS} (h : s.ts = []) : qLines en (k + 1) m s = .ok (m, s) := by
  unfold qLines
  show (match s.ts with
    | [] => pure m
    | front :: _ => linesC en k m front) s = _
  rw [h]
  rfl
theorem lines_cons {en : Tok} {k : Nat} {m : PMod} {s : PS} {t : Tok} {l : List Tok} (h : s.ts = t :: l) : qLines en (k + 1) m s = linesC en k m t s := by
  unfold qLines
  show (match s.ts with
    | [] => pure m
    | front :: _ => linesC en k m front) s = _
  rw [h]
theorem linesC_end {en : Tok} {k : Nat} {m : PMod} {s : PS} {t : Tok} {l : List Tok} (h : s.ts = t :: l) (hc : isTk 6 [] t = true) : linesC en k m t s = qLines en k m { s with ts := l } := by
  unfold linesC
  rw [if_pos hc]
  show qLines en k m { s with ts := s.ts.tail } = _
  rw [h]
  rfl
section
variable {en en' : Tok} (he : sameT en en') (hk : en.kind = 6)
include he hk
theorem bodyAll_rl {n n' : Nat} : Rl (do let s ← get; qBody en (s.ts.length + 1) []) (do let s ← get; qBody en' (s.ts.length + 1) []) (Ls n n') (Lq n n') := by
  intro s s' h
  show RlAt (qBody en (s.ts.length + 1) [] s) (qBody en' (s'.ts.length + 1) [] s') (Lq n n')
  exact (body_rl he hk _ (s.ts.length + 1) (s'.ts.length + 1) s.ts.length s'.ts.length [] (Nat.le_refl _) (Nat.lt_succ_self _) (Nat.lt_succ_self _) s s' ⟨h.1, h.2.1, Nat.le_refl _, Nat.le_refl _⟩).mono fun _ _ _ _ q => ⟨q.1, q.2.mono h.2.2.1 h.2.2.2⟩
theorem lines_rl : ∀ (N k k' n n' : Nat) (m : PMod), k + k' ≤ N → n < k → n' < k' → Rl (qLines en k m) (qLines en' k' m) (Ls n n') (Lq n n')
  | 0, k, k', n, n', m, h, h1, h2 => absurd h1 (by omega)
  | N + 1, 0, k', n, n', m, h, h1, h2 => absurd h1 (Nat.not_lt_zero _)
  | N + 1, k + 1, 0, n, n', m, h, h1, h2 => absurd h2 (Nat.not_lt_zero _)
  | N + 1, k + 1, k' + 1, n, n', m, h, h1, h2 => by
    intro s s' hs
    have hs0 := hs
    obtain ⟨hd, ha, l1, l2⟩ := hs
    rcases hd with hw | ⟨u, r, e, hu, hw⟩
    · cases hl : s.ts with
      | nil =>
        rw [hl] at hw
        cases hl' : s'.ts with
        | nil => rw [lines_nil hl, lines_nil hl']; exact ⟨rfl, hs0⟩
        | cons y l' => rw [hl'] at hw; cases hw
      | cons t l =>
        cases hl' : s'.ts with
        | nil => rw [hl, hl'] at hw; cases hw
        | cons t' l' =>
          rw [lines_cons hl, lines_cons hl']
          have hsame : sameT t t' := by
            rw [hl, hl'] at hw
            cases hw with
            | one h _ => exact h
            | more _ h _ _ => exact h
          have k1 : l.length + 1 ≤ n := by rw [hl] at l1; simpa using l1
          have k2 : l'.length + 1 ≤ n' := by rw [hl'] at l2; simpa using l2
          have back : ∀ (m : PMod), Rl (qLines en k m) (qLines en' k' m) (Ls (n - 1) (n' - 1)) (Lq n n') := fun m s s' q =>
            (lines_rl N k k' (n - 1) (n' - 1) m (by omega) (by omega) (by omega) s s' q).mono fun _ _ _ _ q => ⟨q.1, q.2.mono (Nat.sub_le _ _) (Nat.sub_le _ _)⟩
          by_cases hc : isTk 6 [] t = true
          · rw [linesC_end hl hc, linesC_end hl' (by rw [← isTk_same hsame]; exact hc)]
            refine back m { s with ts := l } { s' with ts := l' } ⟨?_, ha, by show l.length ≤ n - 1; omega, by show l'.length ≤ n' - 1; omega⟩
            rw [hl, hl'] at hw
            cases hw with
            | one _ h => exact .inl h
            | more k _ hu h => exact .inr ⟨_, _, rfl, by rw [← isTk_same hu]; exact k, h⟩
          · have hH : Hd n n' en en' t t' s s' := ⟨⟨hw, ha, l1, l2⟩, hsame, by rw [hl]; rfl, by rw [hl']; rfl⟩
            have C : Rl (linesC en k m t) (linesC en' k' m t') (Hd n n' en en' t t') (Lq n n') := by
              unfold linesC
              refine Rl.ite (by rw [isTk_same hsame]) (fun c => absurd c hc) fun _ => ?_
              refine Rl.ite (by rw [isTk_same hsame]) (fun c => ?_) fun _ => ?_
              · refine Rl.bind (pass_rl (by rw [isTk_kind c]; decide) hk) fun _ _ => ?_
                exact Rl.eqs ((name_rl he hk _ _).pre fun s s' h => h.1) fun nm => Rl.eqs (size_rl he hk) fun z => Rl.eqsL he hk (lineEnd_rl he hk) fun _ => back _
              refine Rl.ite (by rw [isTk_same hsame]) (fun c => ?_) fun _ => ?_
              · refine Rl.bind (pass_rl (by rw [isTk_kind c]; decide) hk) fun _ _ => ?_
                exact Rl.eqs ((name_rl he hk _ _).pre fun s s' h => h.1) fun nm => Rl.eqs (types_rl he hk) fun p => Rl.eqsL he hk (lineEnd_rl he hk) fun _ => back _
              refine Rl.ite (by rw [isTk_same hsame]) (fun c => ?_) fun _ => Rl.bad
              refine Rl.bind (pass_rl (by rw [isTk_kind c]; decide) hk) fun _ _ => ?_
              refine Rl.eqs ((name_rl he hk _ _).pre fun s s' h => h.1) fun nm => Rl.eqs (types_rl he hk) fun p => Rl.eqsL he hk (lineEnd_rl he hk) fun _ => ?_
              intro s s' q
              have hb := bodyAll_rl he hk (n := n - 1) (n' := n' - 1)
              exact (Rl.eqsL he hk hb fun bs => back { m with fs := m.fs ++ [⟨nm, p.1, p.2, bs⟩] }) s s' q
            exact C s s' hH
    · rw [lines_cons e, linesC_end e hu]
      have k2 : r.length + 1 ≤ n' := by rw [e] at l2; simpa using l2
      exact (lines_rl N (k + 1) k' n (n' - 1) m (by omega) (by omega) (by omega) s { s' with ts := r } ⟨.inl hw, ha, l1, by show r.length ≤ n' - 1; omega⟩).mono fun _ _ _ _ q => ⟨q.1, q.2.mono (Nat.le_refl _) (Nat.sub_le _ _)⟩
end
/-- The same answer, or refused for the same reason. -/
def SameE {α : Type} (x y : Except Flt α) : Prop :=
  match x, y with
  | .ok a, .ok b => a = b
  | .error e, .error e' => e.code = e'.code
  | _, _ => False
theorem SameE.bind {α β : Type} {x y : Except Flt α} {f g : α → Except Flt β} (h : SameE x y) (k : ∀ a, SameE (f a) (g a)) : SameE (x >>= f) (y >>= g) := by
  cases x with
  | error e =>
    cases y with
    | error e' => exact h
    | ok b => exact h.elim
  | ok a =>
    cases y with
    | error e' => exact h.elim
    | ok b =>
      obtain rfl : a = b := h
      exact k a
theorem SameE.mapM {α β : Type} {f g : α → Except Flt β} (h : ∀ a, SameE (f a) (g a)) : ∀ l : List α, SameE (l.mapM f) (l.mapM g)
  | [] => by rw [List.mapM_nil, List.mapM_nil]; exact rfl
  | a :: l => by
    rw [List.mapM_cons, List.mapM_cons]
    exact SameE.bind (h a) fun b => SameE.bind (SameE.mapM h l) fun r => rfl
theorem asked_same {en en' : Tok} (he : sameT en en') {ks kt : List Tok} (h : ks.map keyT = kt.map keyT) (i : Nat) : sameT (ks.getD i en) (kt.getD i en') := by
  have hg : (ks.map keyT)[i]? = (kt.map keyT)[i]? := by rw [h]
  rw [List.getElem?_map, List.getElem?_map] at hg
  rw [List.getD_eq_getElem?_getD, List.getD_eq_getElem?_getD]
  cases h1 : ks[i]? with
  | none =>
    cases h2 : kt[i]? with
    | none => exact he
    | some b => rw [h1, h2] at hg; cases hg
  | some a =>
    cases h2 : kt[i]? with
    | none => rw [h1, h2] at hg; cases hg
    | some b =>
      rw [h1, h2] at hg
      simp only [Option.map_some, Option.some.injEq, keyT, Prod.mk.injEq] at hg
      exact hg
theorem answer_same {en en' : Tok} (he : sameT en en') {ks kt : List Tok} (h : ks.map keyT = kt.map keyT) (find : Tx → Option Int) (n : Int) : SameE (answerP en ks find n) (answerP en' kt find n) := by
  have hs := asked_same he h n.toNat
  unfold answerP
  simp only
  rw [← hs.2]
  split
  · exact rfl
  · exact rfl
theorem settle_same {en en' : Tok} (he : sameT en en') (m : PMod) {ks kt : List Tok} (h : ks.map keyT = kt.map keyT) : SameE (settleM en m ks) (settleM en' m kt) := by
  have hA : ∀ a, SameE (settleA en m ks a) (settleA en' m kt a) := fun a => by
    unfold settleA
    by_cases c : a.kind = 5
    · rw [if_pos c, if_pos c]
      exact SameE.bind (answer_same he h _ _) fun n => rfl
    · rw [if_neg c, if_neg c]; exact rfl
  have hI : ∀ x, SameE (settleI en m ks x) (settleI en' m kt x) := fun x => by
    unfold settleI
    by_cases c : x.op = 30
    · simp only [if_pos c]
      exact SameE.bind (SameE.bind (answer_same he h _ _) fun n => rfl) fun y => SameE.bind (SameE.mapM hA _) fun l => rfl
    · simp only [if_neg c]
      exact SameE.bind (show SameE (Pure.pure x) (Pure.pure x) from rfl) fun y => SameE.bind (SameE.mapM hA _) fun l => rfl
  have hF : ∀ f, SameE (settleF en m ks f) (settleF en' m kt f) := fun f => by
    unfold settleF
    exact SameE.bind (SameE.mapM (fun c => SameE.mapM hI c) _) fun bs => rfl
  unfold settleM
  exact SameE.bind (SameE.mapM hF _) fun fs => rfl
/-- The same pieces, but for more ends of lines (one ahead of all, too): the same module, or refused for the same reason. -/
theorem parseP_blanks {en en' : Tok} (he : sameT en en') (hk : en.kind = 6) {ts ts' : List Tok} (h : Wd ts ts' ∨ ∃ u r, ts' = u :: r ∧ isTk 6 [] u = true ∧ Wd ts r) : SameE (parseP en ts) (parseP en' ts') := by
  unfold parseP
  have h1 := lines_rl he hk _ (ts.length + 1) (ts'.length + 1) ts.length ts'.length ⟨[], [], []⟩ (Nat.le_refl _) (Nat.lt_succ_self _) (Nat.lt_succ_self _) ⟨ts, []⟩ ⟨ts', []⟩ ⟨h, rfl, Nat.le_refl _, Nat.le_refl _⟩
  show SameE (qLines en (ts.length + 1) ⟨[], [], []⟩ ⟨ts, []⟩ >>= fun x => settleM en x.1 x.2.asked) (qLines en' (ts'.length + 1) ⟨[], [], []⟩ ⟨ts', []⟩ >>= fun x => settleM en' x.1 x.2.asked)
  revert h1
  cases qLines en (ts.length + 1) ⟨[], [], []⟩ ⟨ts, []⟩ with
  | error e =>
    cases qLines en' (ts'.length + 1) ⟨[], [], []⟩ ⟨ts', []⟩ with
    | error e' => exact fun h => h
    | ok y => exact fun h => h.elim
  | ok x =>
    cases qLines en' (ts'.length + 1) ⟨[], [], []⟩ ⟨ts', []⟩ with
    | error e' => exact fun h => h.elim
    | ok y =>
      intro h1
      obtain ⟨m, s⟩ := x
      obtain ⟨m', s'⟩ := y
      obtain ⟨e, hl⟩ := h1
      subst e
      exact settle_same he m hl.2.1
end Go.Proofs.YtjomihlnjobndaaGreatDoor
