/- A text behind another one: the lines of the first are read likewise with more behind. No program here. -/
import Derived.Test.YtjomihlnjobndaaGreatDoorPsGoM
namespace Go.Proofs.YtjomihlnjobndaaGreatDoor
set_option linter.unusedVariables false
set_option linter.unusedSimpArgs false

theorem Sy.run {α : Type} {p : PM α} {Q : α → Prop} (h : Sy p Q) {s t : PS} {v : α} (h1 : On s.ts) (h2 : On s.asked) (e : p s = .ok (v, t)) : Q v ∧ On t.ts ∧ On t.asked ∧ t.ts.length ≤ s.ts.length ∧ ∃ B, t.asked = s.asked ++ B := by
  have := h s h1 h2
  rw [e] at this
  exact this
section
variable {en en' nl : Tok} {more : List Tok} (he : Ed en nl)
include he
theorem name_go (full told : Tx → Bool) : Gw nl more (qName en full told) (qName en' full told) := by
  unfold qName
  exact Gw.bind (want_go he (by decide)) fun t => Gw.ite (fun _ => Gw.bind Gw.bad fun _ => Gw.ite (fun _ => Gw.bind Gw.bad fun _ => Gw.pure) fun _ => Gw.pure) fun _ => Gw.ite (fun _ => Gw.bind Gw.bad fun _ => Gw.pure) fun _ => Gw.pure
theorem types_go : Gw nl more (qTypes en) (qTypes en') := by
  unfold qTypes
  refine Gw.bind (brackets_go he fun acc => ?_) fun l => Gw.bind (type_go he) fun r => Gw.pure
  exact Gw.next (fun A v t e => (Gw.bind (type_go he) fun t => Gw.ite (fun _ => Gw.bind Gw.bad fun _ => Gw.pure) fun _ => Gw.pure : Gw nl more _ _) [] A v t e) (fun x l A v t e => (Gw.bind (type_go he) fun t => Gw.ite (fun _ => Gw.bind Gw.bad fun _ => Gw.pure) fun _ => Gw.pure : Gw nl more _ _) (x :: l) A v t e)
theorem label_at (front : Tok) (bs : List (List PIns)) (n : Nat) (y : Tok) (l A : List Tok) (t : PS) (e : qLabel en front bs n ⟨y :: l, A⟩ = .ok ((), t)) :
    qLabel en' front bs n ⟨y :: l ++ nl :: more, A⟩ = .ok ((), ⟨t.ts ++ nl :: more, t.asked⟩) ∨ (t.ts = [] ∧ qLabel en' front bs n ⟨y :: l ++ nl :: more, A⟩ = .ok ((), ⟨more, t.asked⟩)) := by
  unfold qLabel at e ⊢
  by_cases c1 : bs.length = 64
  · simp only [if_pos c1] at e; cases e
  · simp only [if_neg c1] at e ⊢
    by_cases c2 : n ≠ bs.length
    · simp only [if_pos c2] at e; cases e
    · simp only [if_neg c2] at e ⊢
      exact (Gf.bind (mark_go he 58) fun _ => lineEnd_fin he : Gf nl more _ _) l A () t e
omit he in
theorem body_no (k : Nat) (bs : List (List PIns)) (A : List Tok) : ∃ f, qBody en k bs ⟨[], A⟩ = .error f := by
  cases k with
  | zero => exact ⟨_, rfl⟩
  | succ k => exact ⟨_, rfl⟩
theorem body_fin : ∀ (k k' : Nat) (bs : List (List PIns)), k ≤ k' → Gf nl more (qBody en k bs) (qBody en' k' bs)
  | 0, k', bs, _ => fun l A v t e => by cases e
  | k + 1, 0, bs, h => absurd h (Nat.not_succ_le_zero _)
  | k + 1, k' + 1, bs, h => fun l A v t e => by
    have hk := Nat.le_of_succ_le_succ h
    cases l with
    | nil => obtain ⟨f, hf⟩ := body_no (en := en) (k + 1) bs A; rw [hf] at e; cases e
    | cons y l =>
      unfold qBody at e ⊢
      change (if isTk 6 [] y = true then (qPass >>= fun _ => qBody en k bs) else _ : PM _) ⟨y :: l, A⟩ = _ at e
      show (if isTk 6 [] y = true then (qPass >>= fun _ => qBody en' k' bs) else _ : PM _) ⟨y :: l ++ nl :: more, A⟩ = _ ∨ _ ∧ (if isTk 6 [] y = true then (qPass >>= fun _ => qBody en' k' bs) else _ : PM _) ⟨y :: l ++ nl :: more, A⟩ = _
      by_cases c : isTk 6 [] y = true
      · rw [if_pos c] at e
        rw [if_pos c]
        exact body_fin k k' bs hk l A v t e
      · rw [if_neg c] at e
        rw [if_neg c]
        cases hb : blockOfP y with
        | some n =>
          simp only [hb] at e ⊢
          obtain ⟨u, s, h1, h2⟩ := run_bind e
          rcases label_at (en' := en') (more := more) he y bs n y l A s h1 with h3 | ⟨h3, h4⟩
          · have := body_fin k k' _ hk s.ts s.asked v t h2
            rcases this with h5 | ⟨h5, h6⟩
            · left; rw [bind_run h3]; exact h5
            · right; exact ⟨h5, by rw [bind_run h3]; exact h6⟩
          · obtain ⟨f, hf⟩ := body_no (en := en) k (bs ++ [[]]) s.asked
            have e3 : s = ⟨[], s.asked⟩ := by rw [← h3]
            rw [e3] at h2
            change qBody en k (bs ++ [[]]) ⟨[], s.asked⟩ = _ at h2
            rw [hf] at h2; cases h2
        | none =>
          simp only [hb] at e ⊢
          by_cases c0 : bs.length = 0
          · rw [if_pos c0] at e; cases e
          · rw [if_neg c0] at e
            rw [if_neg c0]
            by_cases c1 : isTk 1 [101, 110, 100] y = true
            · rw [if_pos c1] at e
              rw [if_pos c1]
              exact Gf.pure_of (lineEnd_fin he) (fun _ => bs) l A v t e
            · rw [if_neg c1] at e
              rw [if_neg c1]
              by_cases c2 : bs.flatten.length = 400
              · rw [if_pos c2] at e; cases e
              · rw [if_neg c2] at e
                rw [if_neg c2]
                obtain ⟨x, s, h1, h2⟩ := run_bind e
                rcases instr_fin (en' := en') (more := more) he (y :: l) A x s h1 with h3 | ⟨h3, h4⟩
                · have := body_fin k k' _ hk s.ts s.asked v t h2
                  rcases this with h5 | ⟨h5, h6⟩
                  · left; rw [bind_run h3]; exact h5
                  · right; exact ⟨h5, by rw [bind_run h3]; exact h6⟩
                · obtain ⟨f, hf⟩ := body_no (en := en) k (addLast bs x) s.asked
                  have e3 : s = ⟨[], s.asked⟩ := by rw [← h3]
                  rw [e3] at h2
                  change qBody en k (addLast bs x) ⟨[], s.asked⟩ = _ at h2
                  rw [hf] at h2; cases h2
omit he in
theorem lines_no (k : Nat) (m : PMod) (A : List Tok) : qLines en k m ⟨[], A⟩ = .ok (m, ⟨[], A⟩) := by
  cases k with
  | zero => rfl
  | succ k => rfl
omit he in
theorem goes_end {k : Nat} {m n : PMod} {A : List Tok} {t : PS} (h : qLines en k m ⟨[], A⟩ = .ok (n, t)) : n = m ∧ t = ⟨[], A⟩ := by
  rw [lines_no] at h
  cases h
  exact ⟨rfl, rfl⟩
def qG (en : Tok) (k : Nat) (m : PMod) : PM PMod := do
  let nm ← qName en (fun _ => m.vs.length == 8) (hasVar m)
  let n ← qSize en
  qLineEnd en
  qLines en k { m with vs := m.vs ++ [⟨nm, n⟩] }
def qX (en : Tok) (k : Nat) (m : PMod) : PM PMod := do
  let nm ← qName en (fun _ => m.xs.length == 8) (hasCal m)
  let p ← qTypes en
  qLineEnd en
  qLines en k { m with xs := m.xs ++ [⟨nm, p.1, p.2⟩] }
def qF (en : Tok) (k : Nat) (m : PMod) : PM PMod := do
  let nm ← qName en (fun _ => m.fs.length == 8) (hasCal m)
  let p ← qTypes en
  qLineEnd en
  let s ← get
  let bs ← qBody en (s.ts.length + 1) []
  qLines en k { m with fs := m.fs ++ [⟨nm, p.1, p.2, bs⟩] }
omit he in
theorem lines_at2 (k : Nat) (m : PMod) (y : Tok) (l A : List Tok) : qLines en (k + 1) m ⟨y :: l, A⟩ =
    if isTk 6 [] y = true then qLines en k m ⟨l, A⟩ else if isTk 1 [103, 108, 111, 98, 97, 108] y = true then qG en k m ⟨l, A⟩ else if isTk 1 [101, 120, 116, 101, 114, 110] y = true then qX en k m ⟨l, A⟩ else if isTk 1 [102, 117, 110, 99] y = true then qF en k m ⟨l, A⟩ else .error (fltAt 3 y) := by
  show (if isTk 6 [] y = true then _ else _ : PM PMod) ⟨y :: l, A⟩ = _
  by_cases c : isTk 6 [] y = true
  · rw [if_pos c, if_pos c]; rfl
  rw [if_neg c, if_neg c]
  by_cases c1 : isTk 1 [103, 108, 111, 98, 97, 108] y = true
  · rw [if_pos c1, if_pos c1]; rfl
  rw [if_neg c1, if_neg c1]
  by_cases c2 : isTk 1 [101, 120, 116, 101, 114, 110] y = true
  · rw [if_pos c2, if_pos c2]; rfl
  rw [if_neg c2, if_neg c2]
  by_cases c3 : isTk 1 [102, 117, 110, 99] y = true
  · rw [if_pos c3, if_pos c3]; rfl
  rw [if_neg c3, if_neg c3]
  rfl
/-- How the longer text's lines go on behind the first text's. -/
def Goes (en' nl : Tok) (more : List Tok) (x : Except Flt (PMod × PS)) (n : PMod) (t : PS) : Prop :=
  t.ts = [] ∧ ∃ k2 L2, (L2 = nl :: more ∨ L2 = more) ∧ L2.length < k2 ∧ x = qLines en' k2 n ⟨L2, t.asked⟩
theorem lines_goes (hl : Ln en) : ∀ (k k' : Nat) (m : PMod) (l A : List Tok) (n : PMod) (t : PS), On l → On A → l.length < k → (l ++ nl :: more).length < k' → qLines en k m ⟨l, A⟩ = .ok (n, t) → Goes en' nl more (qLines en' k' m ⟨l ++ nl :: more, A⟩) n t
  | 0, k', m, l, A, n, t, _, _, h, _, _ => absurd h (Nat.not_lt_zero _)
  | k + 1, 0, m, l, A, n, t, _, _, _, h, _ => absurd h (Nat.not_lt_zero _)
  | k + 1, k' + 1, m, [], A, n, t, _, _, h1, h2, e => by
    obtain ⟨rfl, rfl⟩ := goes_end e
    exact ⟨rfl, k' + 1, nl :: more, .inl rfl, h2, rfl⟩
  | k + 1, k' + 1, m, y :: l, A, n, t, ho, ha, h1, h2, e => by
    have hol : On l := fun x hx => ho x (List.mem_cons_of_mem _ hx)
    simp only [List.cons_append, List.length_cons, List.length_append] at h1 h2
    -- behind a line's end: on in the first text, or its end
    have goOn : ∀ (m2 : PMod) (s : PS) (x : PM PMod) (hx : x = qLines en' k' m2) (X : Except Flt (PMod × PS)), On s.ts → On s.asked → s.ts.length ≤ l.length → qLines en k m2 s = .ok (n, t) → (X = x ⟨s.ts ++ nl :: more, s.asked⟩ ∨ (s.ts = [] ∧ X = x ⟨more, s.asked⟩)) → Goes en' nl more X n t := fun m2 s x hx X o1 o2 o3 e2 h => by
      subst hx
      rcases h with h | ⟨h3, h4⟩
      · rw [h]
        exact lines_goes hl k k' m2 s.ts s.asked n t o1 o2 (by omega) (by rw [List.length_append, List.length_cons]; omega) e2
      · have e3 : s = ⟨[], s.asked⟩ := by rw [← h3]
        rw [e3] at e2
        obtain ⟨rfl, rfl⟩ := goes_end e2
        exact ⟨rfl, k', more, .inr rfl, by omega, h4⟩
    rw [List.cons_append, lines_at2]
    rw [lines_at2] at e
    by_cases c : isTk 6 [] y = true
    · rw [if_pos c] at e ⊢
      exact lines_goes hl k k' m l A n t hol ha (by omega) (by rw [List.length_append, List.length_cons]; omega) e
    rw [if_neg c] at e ⊢
    by_cases c1 : isTk 1 [103, 108, 111, 98, 97, 108] y = true
    · rw [if_pos c1] at e ⊢
      unfold qG at e ⊢
      obtain ⟨nm, s1, a1, e⟩ := run_bind e
      obtain ⟨z, s2, a2, e⟩ := run_bind e
      obtain ⟨u, s3, a3, e⟩ := run_bind e
      obtain ⟨-, p1, p2, p3, -⟩ := (name_st hl _ _).run hol ha a1
      obtain ⟨-, q1, q2, q3, -⟩ := (size_st hl).run p1 p2 a2
      obtain ⟨-, r1, r2, r3, -⟩ := (lineEnd_st hl).run q1 q2 a3
      have g1 := name_go (en' := en') (more := more) he _ _ l A nm s1 a1
      have g2 := size_go (en' := en') (more := more) he s1.ts s1.asked z s2 a2
      rw [bind_run g1, bind_run g2]
      refine goOn _ s3 _ rfl _ r1 r2 (by simp only at p3; omega) e ?_
      rcases lineEnd_fin (en' := en') (more := more) he s2.ts s2.asked u s3 a3 with g3 | ⟨g3, g4⟩
      · left; rw [bind_run g3]
      · right; exact ⟨g3, by rw [bind_run g4]⟩
    rw [if_neg c1] at e ⊢
    by_cases c2 : isTk 1 [101, 120, 116, 101, 114, 110] y = true
    · rw [if_pos c2] at e ⊢
      unfold qX at e ⊢
      obtain ⟨nm, s1, a1, e⟩ := run_bind e
      obtain ⟨z, s2, a2, e⟩ := run_bind e
      obtain ⟨u, s3, a3, e⟩ := run_bind e
      obtain ⟨-, p1, p2, p3, -⟩ := (name_st hl _ _).run hol ha a1
      obtain ⟨-, q1, q2, q3, -⟩ := (types_st hl).run p1 p2 a2
      obtain ⟨-, r1, r2, r3, -⟩ := (lineEnd_st hl).run q1 q2 a3
      have g1 := name_go (en' := en') (more := more) he _ _ l A nm s1 a1
      have g2 := types_go (en' := en') (more := more) he s1.ts s1.asked z s2 a2
      rw [bind_run g1, bind_run g2]
      refine goOn _ s3 _ rfl _ r1 r2 (by simp only at p3; omega) e ?_
      rcases lineEnd_fin (en' := en') (more := more) he s2.ts s2.asked u s3 a3 with g3 | ⟨g3, g4⟩
      · left; rw [bind_run g3]
      · right; exact ⟨g3, by rw [bind_run g4]⟩
    rw [if_neg c2] at e ⊢
    by_cases c3 : isTk 1 [102, 117, 110, 99] y = true
    · rw [if_pos c3] at e ⊢
      unfold qF at e ⊢
      obtain ⟨nm, s1, a1, e⟩ := run_bind e
      obtain ⟨z, s2, a2, e⟩ := run_bind e
      obtain ⟨u, s3, a3, e⟩ := run_bind e
      change (qBody en (s3.ts.length + 1) [] >>= fun bs => qLines en k { m with fs := m.fs ++ [⟨nm, z.1, z.2, bs⟩] }) s3 = _ at e
      obtain ⟨bs, s4, a4, e⟩ := run_bind e
      obtain ⟨-, p1, p2, p3, -⟩ := (name_st hl _ _).run hol ha a1
      obtain ⟨-, q1, q2, q3, -⟩ := (types_st hl).run p1 p2 a2
      obtain ⟨-, r1, r2, r3, -⟩ := (lineEnd_st hl).run q1 q2 a3
      obtain ⟨-, t1, t2, t3, -⟩ := (body_st hl _ _).run r1 r2 a4
      have g1 := name_go (en' := en') (more := more) he _ _ l A nm s1 a1
      have g2 := types_go (en' := en') (more := more) he s1.ts s1.asked z s2 a2
      rw [bind_run g1, bind_run g2]
      rcases lineEnd_fin (en' := en') (more := more) he s2.ts s2.asked u s3 a3 with g3 | ⟨g3, g4⟩
      · rw [bind_run g3]
        refine goOn _ s4 _ rfl _ t1 t2 (by simp only at p3; omega) e ?_
        rcases body_fin (en' := en') (more := more) he (s3.ts.length + 1) ((s3.ts ++ nl :: more).length + 1) [] (by rw [List.length_append]; omega) s3.ts s3.asked bs s4 a4 with g5 | ⟨g5, g6⟩
        · left
          show (qBody en' ((s3.ts ++ nl :: more).length + 1) [] >>= fun bs => qLines en' k' { m with fs := m.fs ++ [⟨nm, z.1, z.2, bs⟩] }) ⟨s3.ts ++ nl :: more, s3.asked⟩ = _
          rw [bind_run g5]
        · right
          refine ⟨g5, ?_⟩
          show (qBody en' ((s3.ts ++ nl :: more).length + 1) [] >>= fun bs => qLines en' k' { m with fs := m.fs ++ [⟨nm, z.1, z.2, bs⟩] }) ⟨s3.ts ++ nl :: more, s3.asked⟩ = _
          rw [bind_run g6]
      · obtain ⟨f, hf⟩ := body_no (en := en) (s3.ts.length + 1) [] s3.asked
        have e3 : s3 = ⟨[], s3.asked⟩ := by rw [← g3]
        have a5 : qBody en (s3.ts.length + 1) [] ⟨[], s3.asked⟩ = .ok (bs, s4) := by rw [← e3]; exact a4
        rw [hf] at a5; cases a5
    rw [if_neg c3] at e
    cases e
end
end Go.Proofs.YtjomihlnjobndaaGreatDoor
