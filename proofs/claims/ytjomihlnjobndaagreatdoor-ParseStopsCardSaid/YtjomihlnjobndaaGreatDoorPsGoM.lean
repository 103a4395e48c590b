/- A text behind another one: what the pure parser reads of the first is read likewise with more behind. No program here. -/
import Derived.Test.YtjomihlnjobndaaGreatDoorPsStM
namespace Go.Proofs.YtjomihlnjobndaaGreatDoor
set_option linter.unusedVariables false
set_option linter.unusedSimpArgs false

structure Ed (en nl : Tok) : Prop where
  k : en.kind = 6
  k' : nl.kind = 6
  b : en.body = []
  b' : nl.body = []
section
variable {α β : Type} {en en' nl : Tok} {more : List Tok}
/-- What p answers, p' answers with an end of a line and more behind. -/
def Gw (nl : Tok) (more : List Tok) (p p' : PM α) : Prop := ∀ l A v t, p ⟨l, A⟩ = .ok (v, t) → p' ⟨l ++ nl :: more, A⟩ = .ok (v, ⟨t.ts ++ nl :: more, t.asked⟩)
def isC (en : Tok) (l : List Tok) : Bool := isTk 5 [44] (l.head?.getD en)
/-- So where no comma stands behind it. -/
def GwN (en nl : Tok) (more : List Tok) (p p' : PM α) : Prop := ∀ l A v t, p ⟨l, A⟩ = .ok (v, t) → isC en t.ts = false → p' ⟨l ++ nl :: more, A⟩ = .ok (v, ⟨t.ts ++ nl :: more, t.asked⟩)
/-- So, or the end was read as the end of the line. -/
def Gf (nl : Tok) (more : List Tok) (p p' : PM α) : Prop := ∀ l A v t, p ⟨l, A⟩ = .ok (v, t) → p' ⟨l ++ nl :: more, A⟩ = .ok (v, ⟨t.ts ++ nl :: more, t.asked⟩) ∨ (t.ts = [] ∧ p' ⟨l ++ nl :: more, A⟩ = .ok (v, ⟨more, t.asked⟩))
theorem run_bind {p : PM α} {f : α → PM β} {s : PS} {y : β × PS} (h : (p >>= f) s = .ok y) : ∃ v t, p s = .ok (v, t) ∧ f v t = .ok y := by
  change (p s >>= fun x => f x.1 x.2) = _ at h
  cases hp : p s with
  | error e => rw [hp] at h; cases h
  | ok x => rw [hp] at h; exact ⟨x.1, x.2, rfl, h⟩
theorem bind_run {p : PM α} {f : α → PM β} {s : PS} {v : α} {t : PS} (h : p s = .ok (v, t)) : (p >>= f) s = f v t := by
  show (p s >>= fun x => f x.1 x.2) = _
  rw [h]; rfl
theorem Gw.bind {p p' : PM α} {f f' : α → PM β} (h : Gw nl more p p') (k : ∀ a, Gw nl more (f a) (f' a)) : Gw nl more (p >>= f) (p' >>= f') := fun l A v t e => by
  obtain ⟨a, s, h1, h2⟩ := run_bind e
  rw [bind_run (h l A a s h1)]
  exact k a s.ts s.asked v t h2
theorem GwN.bind {p p' : PM α} {f f' : α → PM β} (h : Gw nl more p p') (k : ∀ a, GwN en nl more (f a) (f' a)) : GwN en nl more (p >>= f) (p' >>= f') := fun l A v t e c => by
  obtain ⟨a, s, h1, h2⟩ := run_bind e
  rw [bind_run (h l A a s h1)]
  exact k a s.ts s.asked v t h2 c
theorem Gf.bind {p p' : PM α} {f f' : α → PM β} (h : Gw nl more p p') (k : ∀ a, Gf nl more (f a) (f' a)) : Gf nl more (p >>= f) (p' >>= f') := fun l A v t e => by
  obtain ⟨a, s, h1, h2⟩ := run_bind e
  rw [bind_run (h l A a s h1)]
  exact k a s.ts s.asked v t h2
theorem Gw.pure {a : α} : Gw nl more (Pure.pure a : PM α) (Pure.pure a) := fun l A v t e => by cases e; rfl
theorem Gw.bad {c c' : Nat} {x y : Tok} : Gw nl more (qBad c x : PM α) (qBad c' y) := fun l A v t e => by cases e
theorem Gw.n {p p' : PM α} (h : Gw nl more p p') : GwN en nl more p p' := fun l A v t e _ => h l A v t e
theorem Gw.ite {c : Prop} [Decidable c] {p q p' q' : PM α} (h : c → Gw nl more p p') (k : ¬ c → Gw nl more q q') : Gw nl more (if c then p else q) (if c then p' else q') := by
  by_cases hc : c
  · rw [if_pos hc, if_pos hc]; exact h hc
  · rw [if_neg hc, if_neg hc]; exact k hc
theorem GwN.ite {c : Prop} [Decidable c] {p q p' q' : PM α} (h : c → GwN en nl more p p') (k : ¬ c → GwN en nl more q q') : GwN en nl more (if c then p else q) (if c then p' else q') := by
  by_cases hc : c
  · rw [if_pos hc, if_pos hc]; exact h hc
  · rw [if_neg hc, if_neg hc]; exact k hc
theorem Gf.pure_of {p p' : PM α} (h : Gf nl more p p') (g : α → β) : Gf nl more (p >>= fun a => Pure.pure (g a)) (p' >>= fun a => Pure.pure (g a)) := fun l A v t e => by
  obtain ⟨a, s, h1, h2⟩ := run_bind e
  cases h2
  rcases h l A a t h1 with h3 | ⟨h3, h4⟩
  · left; rw [bind_run h3]; rfl
  · right; exact ⟨h3, by rw [bind_run h4]; rfl⟩
theorem pass_eq (l A : List Tok) : qPass ⟨l, A⟩ = .ok ((), ⟨l.tail, A⟩) := rfl
theorem ask_go (t : Tok) : Gw nl more (qAsk t) (qAsk t) := fun l A v s e => by cases e; rfl
theorem passed_eq (en : Tok) (k : Nat) (b : Tx) (l A : List Tok) : qPassed en k b ⟨l, A⟩ = if isTk k b (l.head?.getD en) then .ok (true, ⟨l.tail, A⟩) else .ok (false, ⟨l, A⟩) := by
  show (if isTk k b (l.head?.getD en) = true then (do qPass; return true : PM Bool) else (return false : PM Bool)) ⟨l, A⟩ = _
  split <;> rfl
theorem want_eq (en : Tok) (k : Nat) (l A : List Tok) : qWant en k ⟨l, A⟩ = if (l.head?.getD en).kind == k then .ok (l.head?.getD en, ⟨l.tail, A⟩) else .error (fltAt 3 (l.head?.getD en)) := by
  show (if ((l.head?.getD en).kind == k) = true then (do qPass; return (l.head?.getD en) : PM Tok) else (qBad 3 (l.head?.getD en) : PM Tok)) ⟨l, A⟩ = _
  split <;> rfl
theorem this_eq (en : Tok) (k : Nat) (b : Tx) (l A : List Tok) : qThis en k b ⟨l, A⟩ = if isTk k b (l.head?.getD en) then .ok ((), ⟨l.tail, A⟩) else .error (fltAt 3 (l.head?.getD en)) := by
  show (if isTk k b (l.head?.getD en) = true then qPass else (qBad 3 (l.head?.getD en) : PM Unit)) ⟨l, A⟩ = _
  split <;> rfl
theorem isTk_no {k : Nat} {b : Tx} {t : Tok} (h : t.kind = 6) (hk : k ≠ 6) : isTk k b t = false := by
  unfold isTk
  rw [h]
  have : ((6 : Nat) == k) = false := by simpa using fun e => hk e.symm
  rw [this, Bool.false_and]
variable (he : Ed en nl)
include he
theorem passed_go {k : Nat} (hk : k ≠ 6) (b : Tx) : Gw nl more (qPassed en k b) (qPassed en' k b) := fun l A v t e => by
  rw [passed_eq] at e ⊢
  cases l with
  | nil =>
    rw [if_neg (by show ¬ isTk k b en = true; rw [isTk_no he.k hk]; decide)] at e
    rw [if_neg (by show ¬ isTk k b nl = true; rw [isTk_no he.k' hk]; decide)]
    cases e; rfl
  | cons x r =>
    change (if isTk k b x = true then _ else _) = _ at e
    show (if isTk k b x = true then _ else _) = _
    split at e <;> rename_i c
    · rw [if_pos c]; cases e; rfl
    · rw [if_neg c]; cases e; rfl
theorem want_go {k : Nat} (hk : k ≠ 6) : Gw nl more (qWant en k) (qWant en' k) := fun l A v t e => by
  rw [want_eq] at e ⊢
  cases l with
  | nil => rw [if_neg (by show ¬ (en.kind == k) = true; rw [he.k]; simpa using fun e => hk e.symm)] at e; cases e
  | cons x r =>
    change (if (x.kind == k) = true then _ else _) = _ at e
    show (if (x.kind == k) = true then _ else _) = _
    split at e <;> rename_i c
    · rw [if_pos c]; cases e; rfl
    · cases e
theorem this_go {k : Nat} (hk : k ≠ 6) (b : Tx) : Gw nl more (qThis en k b) (qThis en' k b) := fun l A v t e => by
  rw [this_eq] at e ⊢
  cases l with
  | nil => rw [if_neg (by show ¬ isTk k b en = true; rw [isTk_no he.k hk]; decide)] at e; cases e
  | cons x r =>
    change (if isTk k b x = true then _ else _) = _ at e
    show (if isTk k b x = true then _ else _) = _
    split at e <;> rename_i c
    · rw [if_pos c]; cases e; rfl
    · cases e
theorem mark_go (c : UInt8) : Gw nl more (qMark en c) (qMark en' c) := this_go he (by decide) [c]
omit he in
theorem lineEnd_eq (en : Tok) (l A : List Tok) : qLineEnd en ⟨l, A⟩ = if (l.head?.getD en).kind == 6 then .ok ((), ⟨l.tail, A⟩) else .error (fltAt 3 (l.head?.getD en)) := by
  unfold qLineEnd
  by_cases c : ((l.head?.getD en).kind == 6) = true
  · rw [if_pos c]
    have := want_eq en 6 l A
    rw [if_pos c] at this
    rw [bind_run this]; rfl
  · rw [if_neg c]
    have := want_eq en 6 l A
    rw [if_neg c] at this
    show (qWant en 6 ⟨l, A⟩ >>= _) = _
    rw [this]; rfl
theorem lineEnd_fin : Gf nl more (qLineEnd en) (qLineEnd en') := fun l A v t e => by
  rw [lineEnd_eq] at e ⊢
  cases l with
  | nil =>
    right
    rw [if_pos (by show (en.kind == 6) = true; rw [he.k]; rfl)] at e
    cases e
    refine ⟨rfl, ?_⟩
    rw [if_pos (by show (nl.kind == 6) = true; rw [he.k']; rfl)]
    rfl
  | cons x r =>
    left
    change (if (x.kind == 6) = true then _ else _) = _ at e
    show (if (x.kind == 6) = true then _ else _) = _
    split at e <;> rename_i c
    · rw [if_pos c]; cases e; rfl
    · cases e
omit he in
/-- What begins by looking at the next piece: at none it must do as said, at one that stands there both look at that. -/
theorem Gw.next {f f' : Tok → PM β} (h0 : ∀ A v t, f en ⟨[], A⟩ = .ok (v, t) → f' nl ⟨nl :: more, A⟩ = .ok (v, ⟨t.ts ++ nl :: more, t.asked⟩)) (h1 : ∀ x l A v t, f x ⟨x :: l, A⟩ = .ok (v, t) → f' x ⟨x :: l ++ nl :: more, A⟩ = .ok (v, ⟨t.ts ++ nl :: more, t.asked⟩)) : Gw nl more (qNext en >>= f) (qNext en' >>= f') := fun l A v t e => by
  cases l with
  | nil => exact h0 A v t e
  | cons x r => exact h1 x r A v t e
omit he in
/-- What passes the piece that stands there. -/
theorem pass_at {g g' : PM β} (h : Gw nl more g g') (x : Tok) (l A : List Tok) (v : β) (t : PS) (e : (qPass >>= fun _ => g) ⟨x :: l, A⟩ = .ok (v, t)) : (qPass >>= fun _ => g') ⟨x :: l ++ nl :: more, A⟩ = .ok (v, ⟨t.ts ++ nl :: more, t.asked⟩) := h l A v t e
theorem type_go : Gw nl more (qType en) (qType en') := by
  unfold qType
  refine Gw.bind (want_go he (by decide)) fun t => ?_
  split
  · exact Gw.pure
  · exact Gw.bad
theorem size_go : Gw nl more (qSize en) (qSize en') := by
  unfold qSize
  exact Gw.bind (want_go he (by decide)) fun t => Gw.ite (fun _ => Gw.bad) fun _ => Gw.pure
theorem block_go : Gw nl more (qBlock en) (qBlock en') := by
  unfold qBlock
  refine Gw.next (fun A v t e => ?_) (fun x l A v t e => ?_)
  · have hb : blockOfP en = none := by unfold blockOfP; rw [if_neg (by rw [he.k]; decide)]
    rw [hb] at e
    cases e
  · cases hb : blockOfP x with
    | none => rw [hb] at e; cases e
    | some n =>
      rw [hb] at e
      exact pass_at Gw.pure x l A v t e
theorem operand_go : Gw nl more (qOperand en) (qOperand en') := by
  unfold qOperand
  refine Gw.next (fun A v t e => ?_) (fun x l A v t e => ?_)
  · rw [if_neg (by rw [he.k]; decide), if_neg (by rw [he.k]; decide), if_neg (by rw [he.k]; decide), if_neg (by rw [isTk_no he.k (by decide)]; decide), if_neg (by rw [isTk_no he.k (by decide)]; decide)] at e
    cases e
  · by_cases c1 : (x.kind == 3) = true
    · rw [if_pos c1] at e ⊢
      exact pass_at Gw.pure x l A v t e
    rw [if_neg c1] at e ⊢
    by_cases c2 : (x.kind == 2) = true
    · rw [if_pos c2] at e ⊢
      exact pass_at Gw.pure x l A v t e
    rw [if_neg c2] at e ⊢
    by_cases c3 : (x.kind == 4) = true
    · rw [if_pos c3] at e ⊢
      change (qPass >>= fun _ => (Pure.pure ⟨5, (A.length : Int), 0⟩ : PM Arg)) ⟨x :: l, A ++ [x]⟩ = .ok (v, t) at e
      show (qPass >>= fun _ => (Pure.pure ⟨5, (A.length : Int), 0⟩ : PM Arg)) ⟨x :: l ++ nl :: more, A ++ [x]⟩ = _
      exact pass_at Gw.pure x l (A ++ [x]) v t e
    rw [if_neg c3] at e ⊢
    by_cases c4 : isTk 1 [112, 111, 105, 115, 111, 110] x = true
    · rw [if_pos c4] at e ⊢
      exact pass_at Gw.pure x l A v t e
    rw [if_neg c4] at e ⊢
    by_cases c5 : isTk 1 [110, 117, 108, 108] x = true
    · rw [if_pos c5] at e ⊢
      exact pass_at Gw.pure x l A v t e
    rw [if_neg c5] at e
    cases e
theorem operands_go : ∀ n, Gw nl more (qOperands en n) (qOperands en' n)
  | 0 => Gw.pure
  | 1 => Gw.bind (operand_go he) fun a => Gw.pure
  | k + 2 => by
    unfold qOperands
    exact Gw.bind (operand_go he) fun a => Gw.bind (mark_go he 44) fun _ => Gw.bind (operands_go (k + 1)) fun l => Gw.pure
theorem more_go {item item' : List α → PM α} (hi : ∀ acc, Gw nl more (item acc) (item' acc)) : ∀ (k k' : Nat) (acc : List α), k ≤ k' → GwN en nl more (qMore en item k acc) (qMore en' item' k' acc)
  | 0, k', acc, _ => fun l A v t e c => by
    cases e
    cases k' with
    | zero => rfl
    | succ k' =>
      unfold qMore
      have h := passed_go (en' := en') (more := more) he (k := 5) (by decide) [44] l A false ⟨l, A⟩ (by rw [passed_eq, if_neg (by simpa [isC] using c)])
      rw [bind_run h]
      rfl
  | k + 1, 0, acc, h => absurd h (Nat.not_succ_le_zero _)
  | k + 1, k' + 1, acc, h => by
    unfold qMore
    exact GwN.bind (passed_go he (by decide) [44]) fun b => GwN.ite (fun _ => GwN.bind (hi acc) fun a => more_go hi k k' _ (Nat.le_of_succ_le_succ h)) fun _ => Gw.pure.n
theorem commas_go {item item' : List α → PM α} (hi : ∀ acc, Gw nl more (item acc) (item' acc)) : GwN en nl more (qCommas en item) (qCommas en' item') := by
  unfold qCommas
  refine GwN.bind (hi []) fun a => fun l A v t e c => ?_
  exact more_go he hi (l.length + 1) ((l ++ nl :: more).length + 1) [a] (by rw [List.length_append]; omega) l A v t e c
theorem brackets_go {item item' : List α → PM α} (hi : ∀ acc, Gw nl more (item acc) (item' acc)) : Gw nl more (qBrackets en item) (qBrackets en' item') := by
  unfold qBrackets
  refine Gw.bind (mark_go he 40) fun _ => Gw.bind (passed_go he (by decide) [41]) fun b => Gw.ite (fun _ => Gw.pure) fun _ => fun l A v t e => ?_
  obtain ⟨a, s, h1, h2⟩ := run_bind e
  obtain ⟨u, s2, h3, h4⟩ := run_bind h2
  have hc : isC en s.ts = false := by
    have h5 := this_eq en 5 [41] s.ts s.asked
    change qThis en 5 [41] ⟨s.ts, s.asked⟩ = .ok (u, s2) at h3
    rw [h3] at h5
    split at h5
    · rename_i c
      unfold isC
      cases hh : isTk 5 [44] (s.ts.head?.getD en) with
      | false => rfl
      | true =>
        unfold isTk at c hh
        simp at c hh
        rw [c.2] at hh
        exact absurd hh.2 (by decide)
    · cases h5
  have g1 := commas_go (en' := en') he hi l A a s h1 hc
  have g2 := mark_go (en' := en') (more := more) he 41 s.ts s.asked u s2 h3
  rw [bind_run g1, bind_run g2]
  cases h4
  rfl
theorem flags_go : Gw nl more (qFlags en) (qFlags en') := by
  unfold qFlags
  exact Gw.bind (passed_go he (by decide) _) fun _ => Gw.bind (passed_go he (by decide) _) fun _ => Gw.bind (passed_go he (by decide) _) fun _ => Gw.pure
theorem typed_go (x : PIns) (n : Nat) : Gw nl more (qTyped en x n) (qTyped en' x n) := by
  unfold qTyped
  exact Gw.bind (type_go he) fun t => Gw.bind (operands_go he n) fun l => Gw.pure
theorem form_go (x : PIns) : GwN en nl more (qForm en x) (qForm en' x) := by
  unfold qForm
  refine GwN.ite (fun _ => (Gw.bind (type_go he) fun n => Gw.bind (operand_go he) fun a => Gw.bind (this_go he (by decide) _) fun _ => Gw.bind (type_go he) fun t => Gw.pure).n) fun _ => ?_
  refine GwN.ite (fun c => (typed_go he _ 3).n) fun _ => ?_
  refine GwN.ite (fun c => (typed_go he _ 1).n) fun _ => ?_
  refine GwN.ite (fun c => GwN.bind (type_go he) fun t => ?_) fun _ => ?_
  · intro l A v s e c
    cases l with
    | nil =>
      change (if (en.kind == 6) = true then _ else _ : PM PIns) ⟨[], A⟩ = _ at e
      rw [if_pos (by rw [he.k]; rfl)] at e
      cases e
      show (if (nl.kind == 6) = true then _ else _ : PM PIns) ⟨nl :: more, A⟩ = _
      rw [if_pos (by rw [he.k']; rfl)]
      rfl
    | cons y l =>
      change (if (y.kind == 6) = true then _ else _ : PM PIns) ⟨y :: l, A⟩ = _ at e
      show (if (y.kind == 6) = true then _ else _ : PM PIns) ⟨y :: l ++ nl :: more, A⟩ = _
      split at e <;> rename_i c6
      · rw [if_pos c6]; cases e; rfl
      · rw [if_neg c6]
        obtain ⟨q, u, h1, h2⟩ := run_bind e
        cases h2
        have g := commas_go (en' := en') (more := more) he (item' := fun _ => do let b ← qBlock en'; let a ← qOperand en'; return (b, a)) (fun _ => Gw.bind (block_go he) fun b => Gw.bind (operand_go he) fun a => Gw.pure) (y :: l) A q s h1 c
        rw [bind_run g]
        rfl
  refine GwN.ite (fun c => (Gw.bind (size_go he) fun n => Gw.pure).n) fun _ => ?_
  refine GwN.ite (fun c => (Gw.bind (operands_go he 2) fun l => Gw.pure).n) fun _ => ?_
  refine GwN.ite (fun c => (Gw.bind (want_go he (by decide)) fun t => Gw.bind (ask_go t) fun n => Gw.bind (brackets_go he fun _ => operand_go he) fun l => Gw.pure).n) fun _ => ?_
  refine GwN.ite (fun c => (Gw.bind (operand_go he) fun a => Gw.bind (mark_go he _) fun _ => Gw.bind (block_go he) fun b => Gw.bind (mark_go he _) fun _ => Gw.bind (block_go he) fun d => Gw.pure).n) fun _ => ?_
  refine GwN.ite (fun c => (Gw.bind (block_go he) fun b => Gw.pure).n) fun _ => ?_
  refine GwN.ite (fun c => Gw.n ?_) fun _ => ?_
  · refine Gw.next (fun A v t e => ?_) (fun y l A v t e => ?_)
    · rw [if_pos (by rw [he.k]; rfl)] at e
      rw [if_pos (by rw [he.k']; rfl)]
      cases e; rfl
    · by_cases c6 : (y.kind == 6) = true
      · rw [if_pos c6] at e ⊢
        cases e; rfl
      · rw [if_neg c6] at e ⊢
        exact typed_go he _ 1 (y :: l) A v t e
  refine GwN.ite (fun c => Gw.pure.n) fun _ => ?_
  by_cases c : x.op ≤ 13
  · simp only [if_pos c]
    exact (Gw.bind (flags_go he) fun fl => typed_go he _ 2).n
  · simp only [if_neg c]
    exact (Gw.bind Gw.pure fun fl => typed_go he _ 2).n
def qMain (en : Tok) (r : Int) : PM PIns := do
  let w ← qNext en
  let op := opOfP w
  if ¬ (op = 30 ∨ op ≠ 0 ∧ idleB op = decide (0 ≤ r)) then qBad 3 w
  qPass
  let x ← qForm en ⟨op, r, 0, 0, 0, [], []⟩
  qLineEnd en
  return x
theorem main_fin (r : Int) : Gf nl more (qMain en r) (qMain en' r) := fun l A v t e => by
  unfold qMain at e ⊢
  cases l with
  | nil =>
    have h0 : opOfP en = 0 := by unfold opOfP; rw [if_neg (by rw [he.k]; decide)]
    change (if ¬ (opOfP en = 30 ∨ opOfP en ≠ 0 ∧ idleB (opOfP en) = decide (0 ≤ r)) then (qBad 3 en >>= _ : PM PIns) else _) ⟨[], A⟩ = _ at e
    rw [if_pos (by rw [h0]; simp)] at e
    cases e
  | cons w l =>
    change (if ¬ (opOfP w = 30 ∨ opOfP w ≠ 0 ∧ idleB (opOfP w) = decide (0 ≤ r)) then (qBad 3 w >>= _ : PM PIns) else _) ⟨w :: l, A⟩ = _ at e
    show (if ¬ (opOfP w = 30 ∨ opOfP w ≠ 0 ∧ idleB (opOfP w) = decide (0 ≤ r)) then (qBad 3 w >>= _ : PM PIns) else _) ⟨w :: l ++ nl :: more, A⟩ = _ ∨ _ ∧ (if ¬ (opOfP w = 30 ∨ opOfP w ≠ 0 ∧ idleB (opOfP w) = decide (0 ≤ r)) then (qBad 3 w >>= _ : PM PIns) else _) ⟨w :: l ++ nl :: more, A⟩ = _
    by_cases c : ¬ (opOfP w = 30 ∨ opOfP w ≠ 0 ∧ idleB (opOfP w) = decide (0 ≤ r))
    · rw [if_pos c] at e; cases e
    · rw [if_neg c] at e
      rw [if_neg c]
      change (qForm en ⟨opOfP w, r, 0, 0, 0, [], []⟩ >>= fun x => qLineEnd en >>= fun _ => Pure.pure x) ⟨l, A⟩ = _ at e
      show (qForm en' ⟨opOfP w, r, 0, 0, 0, [], []⟩ >>= fun x => qLineEnd en' >>= fun _ => Pure.pure x) ⟨l ++ nl :: more, A⟩ = _ ∨ _ ∧ (qForm en' ⟨opOfP w, r, 0, 0, 0, [], []⟩ >>= fun x => qLineEnd en' >>= fun _ => Pure.pure x) ⟨l ++ nl :: more, A⟩ = _
      obtain ⟨x, s, h1, h2⟩ := run_bind e
      obtain ⟨u, s2, h3, h4⟩ := run_bind h2
      have hc : isC en s.ts = false := by
        change qLineEnd en ⟨s.ts, s.asked⟩ = _ at h3
        rw [lineEnd_eq] at h3
        split at h3
        · rename_i c6
          have c6 : (s.ts.head?.getD en).kind = 6 := by simpa using c6
          exact isTk_no c6 (by decide)
        · cases h3
      have g1 := form_go (en' := en') (more := more) he _ l A x s h1 hc
      rw [bind_run g1]
      cases h4
      rcases lineEnd_fin (en' := en') (more := more) he s.ts s.asked u t h3 with h5 | ⟨h5, h6⟩
      · left; rw [bind_run h5]; rfl
      · right; exact ⟨h5, by rw [bind_run h6]; rfl⟩
theorem instr_fin : Gf nl more (qInstr en) (qInstr en') := fun l A v t e => by
  cases l with
  | nil =>
    change (if (en.kind == 3) = true then _ else (Pure.pure (-1) >>= qMain en) : PM PIns) ⟨[], A⟩ = _ at e
    rw [if_neg (by rw [he.k]; decide)] at e
    have h0 : opOfP en = 0 := by unfold opOfP; rw [if_neg (by rw [he.k]; decide)]
    change (if ¬ (opOfP en = 30 ∨ opOfP en ≠ 0 ∧ idleB (opOfP en) = decide ((0 : Int) ≤ -1)) then (qBad 3 en >>= _ : PM PIns) else _) ⟨[], A⟩ = _ at e
    rw [if_pos (by rw [h0]; simp)] at e
    cases e
  | cons y l =>
    change (if (y.kind == 3) = true then ((do qPass; qMark en 61; return (numOf y : Int)) >>= qMain en) else (Pure.pure (-1) >>= qMain en) : PM PIns) ⟨y :: l, A⟩ = _ at e
    show (if (y.kind == 3) = true then ((do qPass; qMark en' 61; return (numOf y : Int)) >>= qMain en') else (Pure.pure (-1) >>= qMain en') : PM PIns) ⟨y :: l ++ nl :: more, A⟩ = _ ∨ _ ∧ (if (y.kind == 3) = true then ((do qPass; qMark en' 61; return (numOf y : Int)) >>= qMain en') else (Pure.pure (-1) >>= qMain en') : PM PIns) ⟨y :: l ++ nl :: more, A⟩ = _
    by_cases c : (y.kind == 3) = true
    · rw [if_pos c] at e
      rw [if_pos c]
      exact Gf.bind (Gw.bind (mark_go he 61) fun _ => Gw.pure) (fun r => main_fin he r) l A v t e
    · rw [if_neg c] at e
      rw [if_neg c]
      exact main_fin he (-1) (y :: l) A v t e
end
end Go.Proofs.YtjomihlnjobndaaGreatDoor
