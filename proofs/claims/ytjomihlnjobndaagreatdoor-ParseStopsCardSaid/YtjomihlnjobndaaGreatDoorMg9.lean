/- Several texts in one: PsWd, PgP, PgD, PsLy, SpLen, PsLz, PsBk. -/
import Derived.Test.YtjomihlnjobndaaGreatDoorMg8
/- A text's pieces, laid anew with more blanks, remarks and ends of lines between them: what pieces the widened text has. No program here. -/
namespace Go.Proofs.YtjomihlnjobndaaGreatDoor
set_option linter.unusedVariables false
set_option linter.unusedSimpArgs false

theorem Lx.blankc {c : UInt8} (hc : isBlank c = true) (t : Tx) : Lx [c] [] t := by
  intro line col
  refine ⟨line, col + 1, [], rfl, fun ts f h => ?_⟩
  have hr : runOf isBlank (c :: t) = runOf isBlank t + 1 := by rw [runOf_cons, if_pos hc]
  have hp : passed (c :: t) = passed t + 1 := by
    unfold passed
    rw [hr, List.drop_succ_cons]
    split
    · rfl
    · split <;> omega
  rw [List.nil_append]
  show Lexed (c :: t) line col ts f
  cases h with
  | done h0 => exact .done (by rw [hp, List.drop_succ_cons]; exact h0)
  | bad h0 h1 =>
    have := Lexed.bad (l := c :: t) (line := line) (col := col) (by rw [hp, List.drop_succ_cons]; exact h0) h1
    rw [hp, show col + (passed t + 1) = col + 1 + passed t by omega] at this
    exact this
  | step h0 h1 h2 =>
    have := Lexed.step (l := c :: t) (line := line) (col := col) (by rw [hp, List.drop_succ_cons]; exact h0) h1 (by rw [hp, show col + (passed t + 1) = col + 1 + passed t by omega]; exact h2)
    rw [hp, show col + (passed t + 1) = col + 1 + passed t by omega] at this
    exact this
theorem Lx.hash {clean : Tx} (hc : ∀ c ∈ clean, c.toNat ≠ 10) (t : Tx) : Lx (35 :: (clean ++ [10])) [(6, [])] t := by
  intro line col
  have hstop : Stop isOfLine (10 :: t) := by intro c r e; cases e; decide
  have hall : ∀ c ∈ (35 :: clean : Tx), isOfLine c = true := by
    intro c h
    rcases List.mem_cons.1 h with rfl | h
    · decide
    · have := hc c h; unfold isOfLine; simpa using this
  have h1 := (run_all hstop hall).1
  have el : (35 :: (clean ++ [10]) ++ t : Tx) = (35 :: clean) ++ 10 :: t := by simp
  have hp : passed ((35 :: clean) ++ 10 :: t) = clean.length + 1 := by
    unfold passed
    have e : runOf isBlank ((35 :: clean) ++ 10 :: t) = 0 := by rw [List.cons_append, runOf_cons, if_neg (by decide)]
    rw [e, List.drop_zero, List.cons_append]
    show (if (35 : UInt8).toNat = 35 then 0 + runOf isOfLine (35 :: (clean ++ 10 :: t)) else 0) = _
    rw [if_pos (by decide), ← List.cons_append, h1, List.length_cons]
    omega
  refine ⟨line + 1, 1, [⟨6, [], line, col + (clean.length + 1)⟩], rfl, fun ts f h => ?_⟩
  rw [el]
  have hd : ((35 :: clean) ++ 10 :: t : Tx).drop (passed ((35 :: clean) ++ 10 :: t)) = 10 :: t := by
    rw [hp, show clean.length + 1 = (35 :: clean : Tx).length by simp, List.drop_left]
  have := Lexed.step (line := line) (col := col) (k := 6) (b := []) (s := 1) (ts := ts) (f := f) hd (by unfold first; rfl) (by simpa using h)
  rw [hp] at this
  exact this
theorem mem_tw {p : UInt8 → Bool} : ∀ {l : Tx} {c : UInt8}, c ∈ l.takeWhile p → p c = true
  | [], c, h => by cases h
  | d :: l, c, h => by
    rw [List.takeWhile_cons] at h
    split at h
    · rename_i hd
      rcases List.mem_cons.1 h with rfl | h
      · exact hd
      · exact mem_tw h
    · cases h
/-- A numeral as it stands in a text. -/
def DigOk (most : Nat) (b : Tx) : Prop := b ≠ [] ∧ (∀ c ∈ b, isDigit c = true) ∧ ¬ (1 < b.length ∧ b.head?.map UInt8.toNat = some 48) ∧ ∃ u, Go.Lib.parseUintB 64 b = .ok u ∧ u ≤ most
theorem number_dig {kind most extra : Nat} {b t : Tx} (h : DigOk most b) (ht : Stop isDigit t) : number kind (b ++ t) most extra = .ok kind b (extra + b.length) := by
  obtain ⟨h0, h1, h2, u, h3, h4⟩ := h
  obtain ⟨k1, k2⟩ := run_all ht h1
  unfold number
  have hh : (b ++ t).head? = b.head? := by
    cases b with
    | nil => exact absurd rfl h0
    | cons c r => rfl
  rw [k1, k2, hh, if_neg h2, h3]
  dsimp only
  rw [if_neg (by omega)]
theorem Lx.dig {b t : Tx} (h : DigOk 18446744073709551615 b) (ht : Stop isDigit t) : Lx b [(2, b)] t := by
  have hk := number_dig (kind := 2) (extra := 0) h ht
  obtain ⟨h0, h1, _⟩ := h
  cases b with
  | nil => exact absurd rfl h0
  | cons c r =>
    have hc := h1 c (by simp)
    have hcn := digit_nat hc
    refine Lx.one (by unfold isBlank; simp; omega) (by omega) ?_
    rw [List.cons_append] at hk ⊢
    unfold first
    dsimp only
    rw [if_neg (by omega), if_neg (by unfold isMark; simp; omega), if_neg (by unfold isLetter; simp; omega), if_pos hc, hk]
    simp
theorem Lx.rdig {b t : Tx} (h : DigOk 4095 b) (ht : Stop isDigit t) : Lx (37 :: b) [(3, b)] t := by
  have hk := number_dig (kind := 3) (extra := 1) h ht
  refine Lx.one (by decide) (by decide) ?_
  rw [List.cons_append]
  unfold first
  dsimp only
  rw [if_neg (by decide), if_neg (by decide), if_neg (by decide), if_neg (by decide), if_pos (by decide), hk, Nat.add_comm]
/-- What the pieces of a text are like. -/
def TkOk (t : Tok) : Prop :=
  (t.kind = 1 ∧ IsW t.body) ∨ (t.kind = 2 ∧ DigOk 18446744073709551615 t.body) ∨ (t.kind = 3 ∧ DigOk 4095 t.body) ∨ (t.kind = 4 ∧ IsW t.body) ∨ (t.kind = 5 ∧ ∃ c, t.body = [c] ∧ isMark c = true) ∨ (t.kind = 6 ∧ t.body = [])
theorem number_ok {kind : Nat} {l : Tx} {most extra k s : Nat} {b : Tx} (h : number kind l most extra = .ok k b s) : k = kind ∧ DigOk most b := by
  unfold number at h
  split at h
  · cases h
  · rename_i hh
    split at h
    · rename_i u hp
      split at h
      · cases h
      · rename_i hm
        injection h with h1 h2 h3
        subst h1 h2
        refine ⟨rfl, ?_, fun c hc => mem_tw hc, ?_, u, hp, by omega⟩
        · intro e
          rw [e] at hp
          unfold Go.Lib.parseUintB at hp
          simp at hp
        · rintro ⟨h4, h5⟩
          refine hh ⟨h4, ?_⟩
          cases l with
          | nil => simp at h4
          | cons c r =>
            rw [List.takeWhile_cons] at h5
            split at h5
            · exact h5
            · simp at h5
    · cases h
theorem word_ok {c : UInt8} {r : Tx} (hc : isLetter c = true) : IsW ((c :: r).take (wordSize (c :: r))) := by
  obtain ⟨n, en⟩ : ∃ n, wordSize (c :: r) = n + 1 := ⟨wordSize (c :: r) - 1, by have := wordSize_pos c r hc; omega⟩
  have hw : wordSize (c :: r) = runOf isOfWord (c :: r) := by simp only [wordSize, if_pos hc]
  refine ⟨c, r.take n, by rw [en, List.take_succ_cons], hc, fun x hx => ?_⟩
  rw [hw, take_runOf] at hx
  exact mem_tw hx
theorem first_tkOk {l : Tx} {k s : Nat} {b : Tx} (h : first l = .ok k b s) (line col : Nat) : TkOk ⟨k, b, line, col⟩ := by
  cases l with
  | nil => cases h
  | cons c r =>
    unfold first at h
    simp only at h
    split at h
    · cases h; exact .inr (.inr (.inr (.inr (.inr ⟨rfl, rfl⟩))))
    split at h
    · rename_i hm; cases h; exact .inr (.inr (.inr (.inr (.inl ⟨rfl, c, rfl, hm⟩))))
    split at h
    · rename_i hc; cases h; exact .inl ⟨rfl, word_ok hc⟩
    split at h
    · obtain ⟨rfl, hd⟩ := number_ok h; exact .inr (.inl ⟨rfl, hd⟩)
    split at h
    · obtain ⟨rfl, hd⟩ := number_ok h; exact .inr (.inr (.inl ⟨rfl, hd⟩))
    split at h
    · rename_i hw
      cases h
      cases r with
      | nil => exact absurd hw.2 (by decide)
      | cons d q =>
        have hd : isLetter d = true := by
          by_cases hd : isLetter d = true
          · exact hd
          · have : wordSize (d :: q) = 0 := by simp only [wordSize, if_neg hd]
            omega
        exact .inr (.inr (.inr (.inl ⟨rfl, word_ok hd⟩)))
    · cases h
theorem lexed_tkOk {l : Tx} {line col : Nat} {ts : List Tok} {f : Option Flt} (h : Lexed l line col ts f) : ∀ t ∈ ts, TkOk t := by
  induction h with
  | done _ => intro t ht; cases ht
  | bad _ _ => intro t ht; cases ht
  | step h1 h2 _ ih =>
    intro t ht
    rcases List.mem_cons.1 ht with rfl | ht
    · exact first_tkOk h2 _ _
    · exact ih t ht
/-- The text of one piece, widened. -/
def wdT (clean : Tx) (t : Tok) : Tx :=
  if t.kind = 3 then [32, 9, 37] ++ t.body
  else if t.kind = 4 then [32, 64] ++ t.body
  else if t.kind = 6 then [13, 35] ++ clean ++ [10, 32, 10]
  else [32, 32] ++ t.body
def wdK (t : Tok) : List (Nat × Tx) := if t.kind = 6 then [KB t, KB t] else [KB t]
theorem stop_next {p : UInt8 → Bool} (h32 : p 32 = false) (h13 : p 13 = false) (clean : Tx) (ts : List Tok) : Stop p (ts.flatMap (wdT clean)) := by
  intro c r e
  cases ts with
  | nil => cases e
  | cons t ts =>
    rw [List.flatMap_cons] at e
    unfold wdT at e
    split at e
    · cases e; exact h32
    split at e
    · cases e; exact h32
    split at e
    · cases e; exact h13
    · cases e; exact h32
theorem lx_wide {clean : Tx} (hc : ∀ c ∈ clean, c.toNat ≠ 10) : ∀ (ts : List Tok), (∀ t ∈ ts, TkOk t) → Lx (ts.flatMap (wdT clean)) (ts.flatMap wdK) []
  | [], _ => Lx.nil []
  | t :: ts, h => by
    have ih := lx_wide hc ts (fun x hx => h x (by simp [hx]))
    have hw : Stop isOfWord (ts.flatMap (wdT clean) ++ []) := by rw [List.append_nil]; exact stop_next (by decide) (by decide) clean ts
    have hd : Stop isDigit (ts.flatMap (wdT clean) ++ []) := by rw [List.append_nil]; exact stop_next (by decide) (by decide) clean ts
    rw [List.flatMap_cons, List.flatMap_cons]
    refine Lx.app ?_ ih
    have b2 : ∀ {s P u}, Lx s P u → Lx ([32, 32] ++ s) P u := fun {s P u} k => (Lx.blankc (c := 32) (by decide) _).app ((Lx.blankc (c := 32) (by decide) _).app k)
    rcases h t (by simp) with ⟨k, hb⟩ | ⟨k, hb⟩ | ⟨k, hb⟩ | ⟨k, hb⟩ | ⟨k, c, hb, hm⟩ | ⟨k, hb⟩
    · have e1 : wdT clean t = [32, 32] ++ t.body := by unfold wdT; simp [k]
      have e2 : wdK t = [(1, t.body)] := by unfold wdK KB; simp [k]
      rw [e1, e2]; exact b2 (Lx.word hb hw)
    · have e1 : wdT clean t = [32, 32] ++ t.body := by unfold wdT; simp [k]
      have e2 : wdK t = [(2, t.body)] := by unfold wdK KB; simp [k]
      rw [e1, e2]; exact b2 (Lx.dig hb hd)
    · have e1 : wdT clean t = [32] ++ ([9] ++ (37 :: t.body)) := by unfold wdT; simp [k]
      have e2 : wdK t = [(3, t.body)] := by unfold wdK KB; simp [k]
      rw [e1, e2]; exact (Lx.blankc (c := 32) (by decide) _).app ((Lx.blankc (c := 9) (by decide) _).app (Lx.rdig hb hd))
    · have e1 : wdT clean t = [32] ++ (64 :: t.body) := by unfold wdT; simp [k]
      have e2 : wdK t = [(4, t.body)] := by unfold wdK KB; simp [k]
      rw [e1, e2]; exact (Lx.blankc (c := 32) (by decide) _).app (Lx.at hb hw)
    · have e1 : wdT clean t = [32, 32] ++ [c] := by unfold wdT; simp [k, hb]
      have e2 : wdK t = [(5, [c])] := by unfold wdK KB; simp [k, hb]
      rw [e1, e2]; exact b2 (Lx.mark hm _)
    · have e1 : wdT clean t = [13] ++ ((35 :: (clean ++ [10])) ++ ([32] ++ [10])) := by unfold wdT; simp [k]
      have e2 : wdK t = [(6, [])] ++ [(6, [])] := by unfold wdK KB; simp [k, hb]
      rw [e1, e2]
      exact (Lx.blankc (c := 13) (by decide) _).app ((Lx.hash hc _).app ((Lx.blankc (c := 32) (by decide) _).app (Lx.line _)))
theorem wd_of_keys : ∀ {ts : List Tok} {l : List Tok}, l.map KB = ts.flatMap wdK → (∀ t ∈ ts, TkOk t) → Wd ts l
  | [], l, h, _ => by
    have : l = [] := List.map_eq_nil_iff.1 h
    rw [this]; exact .nil
  | t :: ts, l, h, ht => by
    rw [List.flatMap_cons] at h
    have ht' : ∀ x ∈ ts, TkOk x := fun x hx => ht x (by simp [hx])
    unfold wdK at h
    split at h
    · rename_i k
      cases l with
      | nil => cases h
      | cons a l =>
      cases l with
      | nil => simp at h
      | cons b l =>
        simp only [List.map_cons, List.cons_append, List.nil_append, List.cons.injEq] at h
        obtain ⟨h1, h2, h3⟩ := h
        have hb : t.body = [] := by
          rcases ht t (by simp) with ⟨k', _⟩ | ⟨k', _⟩ | ⟨k', _⟩ | ⟨k', _⟩ | ⟨k', _⟩ | ⟨_, hb⟩
          all_goals first | omega | exact hb
        refine .more (by unfold isTk; simp [k, hb]) ?_ ?_ (wd_of_keys h3 ht')
        · unfold KB at h1; injection h1 with h1 h1'; exact ⟨h1.symm, h1'.symm⟩
        · unfold KB at h2; injection h2 with h2 h2'; exact ⟨h2.symm, h2'.symm⟩
    · cases l with
      | nil => cases h
      | cons a l =>
        simp only [List.map_cons, List.cons_append, List.nil_append, List.cons.injEq] at h
        obtain ⟨h1, h3⟩ := h
        refine .one ?_ (wd_of_keys h3 ht')
        unfold KB at h1; injection h1 with h1 h1'; exact ⟨h1.symm, h1'.symm⟩
/-- The pieces of the widened text. -/
theorem lexed_wide {clean : Tx} (hc : ∀ c ∈ clean, c.toNat ≠ 10) {l : Tx} {ts : List Tok} (h : Lexed l 1 1 ts none) :
    ∃ ts', Lexed ((35 :: (clean ++ [10])) ++ ts.flatMap (wdT clean)) 1 1 ts' none ∧ ∃ u r, ts' = u :: r ∧ isTk 6 [] u = true ∧ Wd ts r := by
  have hk := lexed_tkOk h
  have hx := (Lx.hash hc (ts.flatMap (wdT clean) ++ [])).app (lx_wide hc ts hk)
  obtain ⟨line, col, pre, e, hl⟩ := hx 1 1
  have h0 := hl [] none (.done (by unfold passed; rfl))
  rw [List.append_nil, List.append_nil] at h0
  refine ⟨pre, h0, ?_⟩
  cases pre with
  | nil => cases e
  | cons u r =>
    simp only [List.map_cons, List.cons_append, List.nil_append, List.cons.injEq] at e
    refine ⟨u, r, rfl, ?_, wd_of_keys e.2 hk⟩
    have := e.1
    unfold KB at this
    injection this with h1 h2
    unfold isTk
    simp [h1, h2]
end Go.Proofs.YtjomihlnjobndaaGreatDoor
/- What the pieces of a text are like, and how much the parser's own steps can grow. No program here. -/
namespace Go.Proofs.YtjomihlnjobndaaGreatDoor
set_option linter.unusedVariables false
set_option linter.unusedSimpArgs false

theorem parse_letter {c : UInt8} {r : List UInt8} (h : ¬ (48 ≤ c.toNat ∧ c.toNat ≤ 57)) : Go.Lib.parseUintB 64 (c :: r) ≠ .range := by
  unfold Go.Lib.parseUintB
  rw [if_neg (by simp)]
  unfold Go.Lib.parseUintM
  rw [if_neg h]
  intro e; cases e
theorem letter_no {c : UInt8} (h : isLetter c = true) : ¬ (48 ≤ c.toNat ∧ c.toNat ≤ 57) := by
  unfold isLetter at h
  simp at h
  omega
theorem first_gt {l : List UInt8} {k s : Nat} {b : List UInt8} (h : first l = .ok k b s) : b.length ≤ l.length ∧ Go.Lib.parseUintB 64 b ≠ .range := by
  have num : ∀ {kind : Nat} {l : List UInt8} {most extra k s : Nat} {b : List UInt8}, number kind l most extra = .ok k b s → b.length ≤ l.length ∧ Go.Lib.parseUintB 64 b ≠ .range := by
    intro kind l most extra k s b h
    unfold number at h
    split at h
    · cases h
    · split at h
      · rename_i u hp
        split at h
        · cases h
        · injection h with h1 h2 h3
          subst h2
          exact ⟨by rw [← take_runOf, List.length_take]; exact Nat.min_le_right _ _, by rw [hp]; intro e; cases e⟩
      · cases h
  cases l with
  | nil => cases h
  | cons c r =>
    unfold first at h
    simp only at h
    split at h
    · cases h; exact ⟨by simp, by unfold Go.Lib.parseUintB; simp⟩
    split at h
    · rename_i hm
      cases h
      refine ⟨by simp, parse_letter ?_⟩
      unfold isMark at hm
      simp at hm
      omega
    split at h
    · rename_i hc
      cases h
      obtain ⟨n, en⟩ : ∃ n, wordSize (c :: r) = n + 1 := ⟨wordSize (c :: r) - 1, by have := wordSize_pos c r hc; omega⟩
      refine ⟨by rw [List.length_take]; exact Nat.min_le_right _ _, ?_⟩
      rw [en, List.take_succ_cons]
      exact parse_letter (letter_no hc)
    split at h
    · exact num h
    split at h
    · have := num h
      exact ⟨Nat.le_trans this.1 (Nat.le_succ _), this.2⟩
    split at h
    · rename_i hw
      cases h
      refine ⟨by rw [List.length_take, List.length_cons]; omega, ?_⟩
      cases r with
      | nil => exact absurd hw.2 (by decide)
      | cons d q =>
        obtain ⟨n, en⟩ : ∃ n, wordSize (d :: q) = n + 1 := ⟨wordSize (d :: q) - 1, by omega⟩
        have hd : isLetter d = true := by
          by_cases hd : isLetter d = true
          · exact hd
          · have : wordSize (d :: q) = 0 := by simp only [wordSize, if_neg hd]
            omega
        rw [en, List.take_succ_cons]
        exact parse_letter (letter_no hd)
    · cases h
theorem tkOk_no {t : Tok} (h : TkOk t) : ∀ d ∈ t.body, d.toNat ≠ 45 := by
  have w : ∀ {d : UInt8}, isOfWord d = true → d.toNat ≠ 45 := fun {d} hd => by
    unfold isOfWord at hd
    rw [Bool.or_eq_true] at hd
    rcases hd with hd | hd
    · have := letter_nat hd; omega
    · have := digit_nat hd; omega
  intro d hd
  rcases h with ⟨_, _, _, _, _, h⟩ | ⟨_, _, h, _⟩ | ⟨_, _, h, _⟩ | ⟨_, _, _, _, _, h⟩ | ⟨_, c, h, hm⟩ | ⟨_, h⟩
  · exact w (h d hd)
  · have := digit_nat (h d hd); omega
  · have := digit_nat (h d hd); omega
  · exact w (h d hd)
  · rw [h] at hd
    rw [List.mem_singleton.1 hd]
    unfold isMark at hm
    simp at hm
    omega
  · rw [h] at hd; cases hd
theorem lexed_gt {l : List UInt8} {line col : Nat} {ts : List Tok} {f : Option Flt} (h : Lexed l line col ts f) (hl : l.length ≤ 65536) : ∀ t ∈ ts, Gt t := by
  have hg := lexed_gd h hl
  intro t ht
  have hno := tkOk_no (lexed_tkOk h t ht)
  refine ⟨hg t ht, ?_⟩
  have key : ∀ {l : List UInt8} {line col : Nat} {ts : List Tok} {f : Option Flt}, Lexed l line col ts f → l.length ≤ 65536 → ∀ t ∈ ts, t.body.length ≤ 65536 ∧ Go.Lib.parseUintB 64 t.body ≠ .range := by
    intro l line col ts f h
    induction h with
    | done _ => intro _ t ht; cases ht
    | bad _ _ => intro _ t ht; cases ht
    | step h1 h2 _ ih =>
      rename_i l line col c r k b s ts f h3
      intro hl t ht
      have hlen : (c :: r).length ≤ l.length := by rw [← h1, List.length_drop]; omega
      rcases List.mem_cons.1 ht with rfl | ht
      · have := first_gt h2
        exact ⟨by show b.length ≤ _; omega, this.2⟩
      · exact ih (by rw [List.length_drop]; omega) t ht
  exact ⟨(key h hl t ht).1, (key h hl t ht).2, hno⟩
theorem endTk_gt (t : Tx) : Gt (endTk t) := ⟨endTk_gd t, by simp [endTk], by unfold Go.Lib.parseUintB endTk; simp, fun d hd => by cases hd⟩
theorem nx_gt {en : Tok} {s : RS} (he : Gt en) (h : ∀ t ∈ s.ts, Gt t) : Gt (nx en s) := by
  unfold nx
  cases e : s.ts with
  | nil => simpa using he
  | cons t ts => rw [e] at h; simpa using h t (by simp)
theorem ps_gt {s : RS} (h : ∀ t ∈ s.ts, Gt t) : ∀ t ∈ (ps s).ts, Gt t := fun t ht => h t (List.mem_of_mem_tail ht)
theorem bd_gt (c : Nat) (t0 : Tok) (s : RS) : ∀ t ∈ (bd c t0 s).ts, Gt t := fun t ht => by cases ht
theorem bd_flt {c : Nat} {t0 : Tok} {s : RS} (h : FltOk s.flt) (hc : c ≠ 0) : FltOk (bd c t0 s).flt := by
  intro x hx
  unfold bd at hx
  cases e : s.flt with
  | none => rw [e] at hx; injection hx with hx; rw [← hx]; exact hc
  | some f => rw [e] at hx; injection hx with hx; rw [← hx]; exact h f e

/-! How much there can be. -/
def sz (s : RS) : Nat := s.asked.length + s.ts.length
theorem sz_ps (s : RS) : sz (ps s) ≤ sz s := by unfold sz ps; simp
theorem sz_bd (c : Nat) (t : Tok) (s : RS) : sz (bd c t s) ≤ sz s := by unfold sz bd; simp
theorem sz_ask (t : Tok) (s : RS) : sz (sAsk t s) = sz s + 1 := by unfold sz sAsk; simp; omega
theorem sz_this (en : Tok) (k : Nat) (b : Tx) (s : RS) : sz (sThis en k b s) ≤ sz s := by unfold sThis; split; exact sz_ps s; exact sz_bd _ _ s
theorem sz_want (en : Tok) (k : Nat) (s : RS) : sz (sWant en k s) ≤ sz s := by unfold sWant; split; exact sz_ps s; exact Nat.le_trans (sz_ps _) (sz_bd _ _ s)
theorem sz_passed (en : Tok) (k : Nat) (b : Tx) (s : RS) : sz (sPassed en k b s) ≤ sz s := by unfold sPassed; split; exact sz_ps s; exact Nat.le_refl _
theorem sz_block (en : Tok) (s : RS) : sz (sBlock en s) ≤ sz s := by unfold sBlock; split; exact sz_ps s; exact Nat.le_trans (sz_ps _) (sz_bd _ _ s)
theorem sz_type (en : Tok) (s : RS) : sz (sType en s) ≤ sz s := by unfold sType; split; exact sz_want _ _ s; exact Nat.le_trans (sz_bd _ _ _) (sz_want _ _ s)
theorem sz_size (en : Tok) (s : RS) : sz (sSize en s) ≤ sz s := by unfold sSize; split; exact Nat.le_trans (sz_bd _ _ _) (sz_want _ _ s); exact sz_want _ _ s
/-- Where a piece of another kind than the end's stands, there is one. -/
theorem ts_of_kind {en : Tok} {s : RS} (he : en.kind = 6) (h : (nx en s).kind ≠ 6) : s.ts.length ≠ 0 := by
  intro e
  have : s.ts = [] := List.length_eq_zero_iff.1 e
  unfold nx at h
  rw [this] at h
  exact h he
theorem sz_ps1 {s : RS} (h : s.ts.length ≠ 0) : sz (ps s) + 1 ≤ sz s := by
  unfold sz ps
  simp
  omega
theorem sz_operand {en : Tok} (he : en.kind = 6) (s : RS) : sz (sOperand en s) ≤ sz s := by
  unfold sOperand
  split
  · exact sz_ps s
  split
  · rename_i h4
    have h1 := ts_of_kind (s := s) he (by rw [h4]; decide)
    have : sz (ps (sAsk (nx en s) s)) + 1 ≤ sz (sAsk (nx en s) s) := sz_ps1 h1
    rw [sz_ask] at this
    omega
  split
  · exact sz_ps s
  · exact Nat.le_trans (sz_ps _) (sz_bd _ _ s)
end Go.Proofs.YtjomihlnjobndaaGreatDoor
/- The parser's reader: next, pass, refuse. -/
namespace Go.Proofs.YtjomihlnjobndaaGreatDoor
open Go.RowKit Go.Maps
set_option linter.unusedVariables false
set_option linter.unusedSimpArgs false

abbrev tkV (t : Tok) : Value := .agg #[.int .i64 t.kind, .string (str t.body), .int .i64 t.line, .int .i64 t.col]
section
variable {B b : Nat} {W w : World} {en : Tok} {m0 m1 m2 r : Value} {s : RS} {Z : As}
set_option maxRecDepth 100000 in
set_option maxHeartbeats 1000000 in
theorem next_any (h : Rd B W b en m0 m1 m2 r s Z w) :
    Calls Tryz.prog 66 #[.pointer (some ⟨b, 0, none⟩)] w (fun e w' => e = .returned (tkV (nx en s)) ∧ Below w.heap.size w w') := by
  obtain ⟨hg, hf, tp, tn, tc, hs⟩ := h
  have hb := hs.box
  have c0 := hb.get 0 _ rfl
  have c1 := hb.get 1 _ rfl
  have c2 := hb.get 2 _ rfl
  have c3 := hb.get 3 _ rfl
  have c4 := hb.get 4 _ rfl
  have hlt := hb.1
  obtain ⟨hn, hnc, hcm, hcell, hblk⟩ := hs.sat.2.1
  have HB : ∀ o, Below w.heap.size w (w.alloc o) := fun o => (Below.refl _ _).alloc (Nat.le_refl _) o
  clear hs hb hg hf
  unfold nx tkV
  cases e : s.ts with
  | nil =>
    rw [e] at hn
    simp only [List.length_nil] at hn
    subst hn
    clear hcell hblk
    go_enter Tryz.func66, Tryz.ntmps66
    go_wp2_with fail
    refine bodyPost_ret (v := tkV en) (by simp [results, Tryz.results66, go_sem, tkV]) rfl ⟨rfl, HB _⟩
  | cons t ts =>
    rw [e] at hn hcell
    simp only [List.length_cons] at hn
    obtain ⟨g, o, ea, k0⟩ := hcell 0 _ rfl
    obtain ⟨g', o', ea', k1⟩ := hcell 1 _ rfl
    rw [ea] at ea'; cases ea'
    obtain ⟨g', o', ea', k2⟩ := hcell 2 _ rfl
    rw [ea] at ea'; cases ea'
    obtain ⟨g', o', ea', k3⟩ := hcell 3 _ rfl
    rw [ea] at ea'; cases ea'
    subst ea
    have hgl := hblk g (cR_self ⟨g, o, none⟩)
    have hz : ((tn : Int) == 0) = false := beq_false_of_ne (by omega)
    have hz2 : 0 < tn := by omega
    rw [Nat.add_zero] at k0
    clear hcell hblk hn
    go_enter Tryz.func66, Tryz.ntmps66
    go_wp2_with fail
    refine bodyPost_ret (v := tkV t) (by simp [results, Tryz.results66, go_sem, tkV]) rfl ⟨rfl, HB _⟩
theorem ps_nil {s : RS} (h : s.ts = []) : (ps s).ts = s.ts := by unfold ps; rw [h]; rfl
/-- The pieces behind the first one. -/
theorem Rd.pass (h : Rd B W b en m0 m1 m2 r s Z w) {t : Tok} {ts : List Tok} (e : s.ts = t :: ts) : ∃ g o tc, w.cell? ⟨b, 0, none⟩ = some (.slice (some ⟨g, o, none⟩) (ts.length + 1) tc) ∧ ts.length + 1 ≤ tc ∧ tc ≤ maxLen ∧
    ∀ o', ts.length = 0 ∨ o' = o + 4 → Rd B W b en m0 m1 m2 r (ps s) Z (w.setCell ⟨b, 0, none⟩ (.slice (some ⟨g, o', none⟩) ts.length (tc - 1))) := by
  obtain ⟨hg, hf, tp, tn, tc, hs⟩ := h
  obtain ⟨hn, hnc, hcm, hcell, hblk⟩ := hs.sat.2.1
  have hbx := hs.box.get 0 _ rfl
  rw [e] at hn hcell
  simp only [List.length_cons] at hn
  obtain ⟨g, o, ea, k0⟩ := hcell 0 _ rfl
  subst ea hn
  refine ⟨g, o, tc, hbx, hnc, hcm, fun o' ho' => ⟨fun t ht => hg t (by rw [e]; unfold ps at ht; rw [e] at ht; exact List.mem_cons_of_mem _ ht), hf, some ⟨g, o', none⟩, ts.length, tc - 1, ?_⟩⟩
  have ets : (ps s).ts = ts := by unfold ps; rw [e]; rfl
  rw [ets]
  have h2 := hs.set 0 (.slice (some ⟨g, o', none⟩) ts.length (tc - 1))
  refine h2.imp ⟨fun w x => ⟨x.1, ?_, x.2.2⟩, fun k => ?_⟩
  · have x2 : tkP (some ⟨g, o, none⟩) (ts.length + 1) tc s.ts w := x.2.1
    obtain ⟨q1, q2, q3, q4, q5⟩ := x2
    rw [e] at q4
    show tkP (some ⟨g, o', none⟩) ts.length (tc - 1) ts w
    refine ⟨rfl, by omega, by omega, fun j u hu => ⟨g, o', rfl, ?_⟩, fun k hk => q5 k hk⟩
    rcases ho' with ho' | rfl
    · rw [List.length_eq_zero_iff.1 ho'] at hu; cases hu
    obtain ⟨g', o', ea', k1⟩ := q4 (4 + j) u (by
      rw [List.flatMap_cons, List.getElem?_append_right (by simp [tokC])]
      simpa [tokC] using hu)
    cases ea'
    rw [← Nat.add_assoc] at k1
    exact k1
  · exact Nat.le_refl _
set_option maxRecDepth 100000 in
set_option maxHeartbeats 1000000 in
theorem pass_any (h : Rd B W b en m0 m1 m2 r s Z w) :
    Calls Tryz.prog 109 #[.pointer (some ⟨b, 0, none⟩)] w (fun e w' => e = .returned (.tuple #[]) ∧ Rd B W b en m0 m1 m2 r (ps s) Z w') := by
  have hb : Box b _ w := h.2.2.choose_spec.choose_spec.choose_spec.box
  have hlt := hb.1
  have hfr := hb.2.1 0
  clear hb
  cases e : s.ts with
  | nil =>
    have hb := h.2.2
    obtain ⟨tp, tn, tc, hs⟩ := hb
    have c0 := hs.box.get 0 _ rfl
    have hn : tn = s.ts.length := hs.sat.2.1.1
    rw [e] at hn
    simp only [List.length_nil] at hn
    subst hn
    have HF := Lib.hid (h.same (s' := ps s) (ps_nil e) rfl)
    clear h hs
    go_enter Tryz.func109, Tryz.ntmps109
    go_wp2_with fail
    go_end0
    exact ⟨rfl, HF.out⟩
  | cons t ts =>
    obtain ⟨g, o, tc, c0, h1, h2, hF⟩ := h.pass e
    have HF := Lib.hid hF
    have hz : (0 : Int) < ((ts.length + 1 : Nat) : Int) := by omega
    clear h hF
    obtain ⟨n, en⟩ : ∃ n, ts.length = n := ⟨_, rfl⟩
    rw [en] at c0 HF h1 hz
    clear en e
    go_enter Tryz.func109, Tryz.ntmps109
    go_wp2_with fail
    · subst_vars
      go_end0
      exact ⟨rfl, HF.out _ (.inl (by omega))⟩
    · go_end0
      exact ⟨rfl, HF.out _ (.inr rfl)⟩
/-- A fault that is told. -/
theorem Rd.bad (h : Rd B W b en m0 m1 m2 r s Z w) (t : Tok) (c : Nat) (hc : c ≠ 0) :
    (s.flt = none → Rd B W b en m0 m1 m2 r (bd c t s) Z ((((w.setCell ⟨b, 5, none⟩ (.int .i64 c)).setCell ⟨b, 6, none⟩ (.int .i64 t.line)).setCell ⟨b, 7, none⟩ (.int .i64 t.col)).setCell ⟨b, 0, none⟩ (.slice none 0 0))) ∧
    (s.flt ≠ none → Rd B W b en m0 m1 m2 r (bd c t s) Z (w.setCell ⟨b, 0, none⟩ (.slice none 0 0))) := by
  obtain ⟨hg, hf, tp, tn, tc, hs⟩ := h
  have hok := bd_flt (c := c) (t0 := t) hf hc
  have fin : ∀ w' cs, St B W ((As.and (bx b cs) (As.and (tk tp tn tc s.ts) Z))) w' → cs = rdC none 0 0 en (bd c t s).flt m0 m1 m2 r → Rd B W b en m0 m1 m2 r (bd c t s) Z w' := by
    intro w' cs h2 e
    subst e
    refine ⟨bd_gt c t s, hok, none, 0, 0, h2.imp ⟨fun w x => ⟨x.1, ?_, x.2.2⟩, fun k => ?_⟩⟩
    · show tkP none 0 0 [] w
      exact ⟨rfl, Nat.le_refl _, Nat.zero_le _, fun j u hu => (by cases hu), fun k hk => absurd rfl hk⟩
    · simp only [As.and_c, tk_c]
      have : cR none k = 0 := rfl
      omega
  refine ⟨fun e => ?_, fun e => ?_⟩
  · refine fin _ _ ((((hs.set 5 _).set 6 _).set 7 _).set 0 _) ?_
    unfold bd
    rw [e]
    rfl
  · refine fin _ _ (hs.set 0 _) ?_
    unfold bd
    cases e2 : s.flt with
    | none => exact absurd e2 e
    | some f => rfl
set_option maxRecDepth 100000 in
set_option maxHeartbeats 1000000 in
theorem refuse_any (h : Rd B W b en m0 m1 m2 r s Z w) (t : Tok) (c : Nat) (hc : c ≠ 0) (ci : Int) (eci : ci = (c : Int)) :
    Calls Tryz.prog 65 #[.pointer (some ⟨b, 0, none⟩), .int .i64 ci, tkV t] w (fun e w' => e = .returned (.tuple #[]) ∧ Rd B W b en m0 m1 m2 r (bd c t s) Z w') := by
  subst eci
  obtain ⟨f1, f2⟩ := h.bad t c hc
  obtain ⟨hg, hf, tp, tn, tc, hs⟩ := h
  have hb := hs.box
  have c0 := hb.get 0 _ rfl
  have c5 := hb.get 5 _ rfl
  have c6 := hb.get 6 _ rfl
  have c7 := hb.get 7 _ rfl
  have hlt := hb.1
  have g0 := hb.2.1 0
  have g5 := hb.2.1 5
  have g6 := hb.2.1 6
  have g7 := hb.2.1 7
  have hz := fC_zero hf
  clear hs hb hg hf
  unfold tkV
  cases e : s.flt with
  | none =>
    have HF := Lib.hid (f1 e)
    rw [e] at c5 c6 c7
    simp only [fC, fL, fK] at c5 c6 c7
    clear f1 f2 hz e
    go_enter Tryz.func65, Tryz.ntmps65
    go_wp2_with fail
    go_end0
    exact ⟨rfl, HF.out.alloc _⟩
  | some f =>
    have HF := Lib.hid (f2 (by rw [e]; simp))
    have hne : (fC s.flt == 0) = false := beq_false_of_ne (fun x => by rw [hz, e] at x; cases x)
    obtain ⟨q, eq⟩ : ∃ q, fC s.flt = q := ⟨_, rfl⟩
    rw [eq] at c5 hne
    clear f1 f2 hz e
    go_enter Tryz.func65, Tryz.ntmps65
    go_wp2_with fail
    go_end0
    exact ⟨rfl, HF.out.alloc _⟩
theorem refuse3 (h : Rd B W b en m0 m1 m2 r s Z w) (t : Tok) :
    Calls Tryz.prog 65 #[.pointer (some ⟨b, 0, none⟩), .int .i64 3, tkV t] w (fun e w' => e = .returned (.tuple #[]) ∧ Rd B W b en m0 m1 m2 r (bd 3 t s) Z w') := refuse_any h t 3 (by decide) 3 rfl
theorem refuse4 (h : Rd B W b en m0 m1 m2 r s Z w) (t : Tok) :
    Calls Tryz.prog 65 #[.pointer (some ⟨b, 0, none⟩), .int .i64 4, tkV t] w (fun e w' => e = .returned (.tuple #[]) ∧ Rd B W b en m0 m1 m2 r (bd 4 t s) Z w') := refuse_any h t 4 (by decide) 4 rfl
theorem refuse5 (h : Rd B W b en m0 m1 m2 r s Z w) (t : Tok) :
    Calls Tryz.prog 65 #[.pointer (some ⟨b, 0, none⟩), .int .i64 5, tkV t] w (fun e w' => e = .returned (.tuple #[]) ∧ Rd B W b en m0 m1 m2 r (bd 5 t s) Z w') := refuse_any h t 5 (by decide) 5 rfl
theorem refuse6 (h : Rd B W b en m0 m1 m2 r s Z w) (t : Tok) :
    Calls Tryz.prog 65 #[.pointer (some ⟨b, 0, none⟩), .int .i64 6, tkV t] w (fun e w' => e = .returned (.tuple #[]) ∧ Rd B W b en m0 m1 m2 r (bd 6 t s) Z w') := refuse_any h t 6 (by decide) 6 rfl
theorem refuse7 (h : Rd B W b en m0 m1 m2 r s Z w) (t : Tok) :
    Calls Tryz.prog 65 #[.pointer (some ⟨b, 0, none⟩), .int .i64 7, tkV t] w (fun e w' => e = .returned (.tuple #[]) ∧ Rd B W b en m0 m1 m2 r (bd 7 t s) Z w') := refuse_any h t 7 (by decide) 7 rfl
theorem refuse8 (h : Rd B W b en m0 m1 m2 r s Z w) (t : Tok) :
    Calls Tryz.prog 65 #[.pointer (some ⟨b, 0, none⟩), .int .i64 8, tkV t] w (fun e w' => e = .returned (.tuple #[]) ∧ Rd B W b en m0 m1 m2 r (bd 8 t s) Z w') := refuse_any h t 8 (by decide) 8 rfl
end
end Go.Proofs.YtjomihlnjobndaaGreatDoor
/- The pieces of a spelled text: types, operands, lists, heads of functions, what stands behind an operation. No program here. -/
namespace Go.Proofs.YtjomihlnjobndaaGreatDoor
set_option linter.unusedVariables false
set_option linter.unusedSimpArgs false

theorem isW_of {w : Tx} (h0 : 0 < w.length) (h : wordSize w = w.length) : IsW w := by
  cases w with
  | nil => simp at h0
  | cons c r =>
    unfold wordSize at h
    dsimp only at h
    by_cases hc : isLetter c = true
    · rw [if_pos hc] at h
      refine ⟨c, r, rfl, hc, fun x hx => ?_⟩
      obtain ⟨i, hi, rfl⟩ := List.getElem_of_mem hx
      exact (runOf_at isOfWord (c :: r) i (by rw [h]; exact hi)).2
    · rw [if_neg hc] at h
      simp at h
theorem digit_wordL {x : UInt8} (h : isDigit x = true) : isOfWord x = true := by unfold isOfWord; rw [h]; simp
theorem letter_wordL {x : UInt8} (h : isLetter x = true) : isOfWord x = true := by unfold isOfWord; rw [h]; simp
theorem isW_dec {c : UInt8} (hc : isLetter c = true) (n : Nat) : IsW (c :: Lib.decDigits n) :=
  ⟨c, _, rfl, hc, fun x hx => by
    rcases List.mem_cons.1 hx with rfl | h
    · exact letter_wordL hc
    · exact digit_wordL (dec_digit n x h)⟩
def isWB (w : Tx) : Bool := match w with | [] => false | c :: r => isLetter c && (c :: r).all isOfWord
theorem isW_B {w : Tx} (h : isWB w = true) : IsW w := by
  cases w with
  | nil => simp [isWB] at h
  | cons c r =>
    unfold isWB at h
    rw [Bool.and_eq_true] at h
    exact ⟨c, r, rfl, h.1, List.all_eq_true.1 h.2⟩
theorem isW_type {t : Int} (h : tyB t = true) : IsW (typeT t) := by
  have ht := of_decide_eq_true h
  unfold typeT
  by_cases h0 : t = 0
  · rw [if_pos h0]; exact isW_B (by decide)
  rw [if_neg h0]
  by_cases h1 : t = 65
  · rw [if_pos h1]; exact isW_B (by decide)
  rw [if_neg h1, if_pos (by omega)]
  exact isW_dec (by decide) _
theorem isW_block (n : Int) : IsW (blockT n) := isW_dec (by decide) _
theorem isW_op {op : Int} (h : 1 ≤ op ∧ op ≤ 34) : IsW (opT op) := by
  have : ∀ k : Fin 35, 0 < k.val → isWB (opT (k.val : Int)) = true := by decide
  obtain ⟨k, rfl⟩ : ∃ k : Nat, op = (k : Int) := ⟨op.toNat, by omega⟩
  exact isW_B (this ⟨k, by omega⟩ (by show 0 < k; omega))
theorem Stop.cons {p : UInt8 → Bool} {c : UInt8} {t : Tx} (h : p c = false) : Stop p (c :: t) := fun d r e => by
  injection e with e1 e2
  subst e1
  exact h
theorem Stop.digit {t : Tx} (h : Stop isOfWord t) : Stop isDigit t := fun c r e => by
  have := h c r e
  cases hd : isDigit c with
  | false => rfl
  | true => rw [digit_wordL hd] at this; cases this
/-- The pieces of an operand. -/
def argP (gs : List PVar) (a : Arg) : List (Nat × Tx) :=
  if a.kind = 1 then [(3, decI a.n)] else if a.kind = 2 then [(2, decI a.bits)] else if a.kind = 3 then [(1, [112, 111, 105, 115, 111, 110])] else if a.kind = 4 then [(1, [110, 117, 108, 108])]
  else [(4, match gs[a.n.toNat]? with | some g => byt g.nm | none => [])]
theorem Lx.arg {m : PMod} {a : Arg} {t : Tx} (h : argB m a = true) (hw : ∀ v ∈ m.vs, IsW (byt v.nm)) (hb : 0 ≤ a.bits ∧ a.bits < 18446744073709551616) (ht : Stop isOfWord t) : Lx (argT m.vs a) (argP m.vs a) t := by
  unfold argB at h
  unfold argT argP
  by_cases k1 : a.kind = 1
  · rw [if_pos k1] at h
    rw [if_pos k1, if_pos k1]
    rw [Bool.and_eq_true] at h
    have h1 := of_decide_eq_true h.1
    exact Lx.reg (by omega) ht.digit
  rw [if_neg k1] at h
  rw [if_neg k1, if_neg k1]
  by_cases k2 : a.kind = 2
  · rw [if_pos k2, if_pos k2]
    exact Lx.num (by omega) ht.digit
  rw [if_neg k2] at h
  rw [if_neg k2, if_neg k2]
  by_cases k3 : a.kind = 3
  · rw [if_pos k3, if_pos k3]
    exact Lx.word (isW_B (by decide)) ht
  rw [if_neg k3, if_neg k3]
  by_cases k4 : a.kind = 4
  · rw [if_pos k4, if_pos k4]
    exact Lx.word (isW_B (by decide)) ht
  rw [if_neg k4, if_neg k4]
  rw [if_neg (by omega)] at h
  by_cases k5 : a.kind = 5
  · rw [if_pos k5] at h
    have h5 := of_decide_eq_true h
    have hl : a.n.toNat < m.vs.length := by omega
    rw [List.getElem?_eq_getElem hl]
    exact Lx.at (hw _ (List.getElem_mem hl)) ht
  · rw [if_neg k5] at h
    cases h
/-- Between each two a comma. -/
def sepP : List (List (Nat × Tx)) → List (Nat × Tx)
  | [] => []
  | [x] => x
  | x :: y :: l => x ++ [(5, [44])] ++ sepP (y :: l)
theorem Lx.comma (t : Tx) : Lx [44, 32] [(5, [44])] t := Lx.app (s := [44]) (u := [32]) (Q := []) (Lx.mark (by decide) _) (Lx.blank t)
theorem Lx.sep : ∀ (l : List (Tx × List (Nat × Tx))) {t : Tx}, (∀ x ∈ l, ∀ t, Stop isOfWord t → Lx x.1 x.2 t) → Stop isOfWord t → Lx (listT (l.map Prod.fst)) (sepP (l.map Prod.snd)) t
  | [], t, h, ht => Lx.nil t
  | [x], t, h, ht => h x (by simp) t ht
  | x :: y :: l, t, h, ht => by
    have ih := Lx.sep (y :: l) (t := t) (fun z hz => h z (List.mem_cons_of_mem _ hz)) ht
    refine Lx.app (Lx.app (s := x.1) (u := [44, 32]) (h x (by simp) _ ?_) (Lx.comma _)) ih
    exact Stop.cons (by decide)
theorem Lx.list {α : Type} {f : α → Tx} {g : α → List (Nat × Tx)} {l : List α} {t : Tx} (h : ∀ x ∈ l, ∀ t, Stop isOfWord t → Lx (f x) (g x) t) (ht : Stop isOfWord t) : Lx (listT (l.map f)) (sepP (l.map g)) t := by
  have := Lx.sep (l.map fun x => (f x, g x)) (t := t) (fun y hy => by
    obtain ⟨x, hx, rfl⟩ := List.mem_map.1 hy
    exact h x hx) ht
  rw [List.map_map, List.map_map] at this
  exact this
theorem Lx.type {ty : Int} {t : Tx} (h : tyB ty = true) (ht : Stop isOfWord t) : Lx (typeT ty) [(1, typeT ty)] t := Lx.word (isW_type h) ht
/-- A blank ahead of a part. -/
theorem Lx.sp {s t : Tx} {P : List (Nat × Tx)} (h : Lx s P t) : Lx (32 :: s) P t := Lx.app (s := [32]) (P := []) (Lx.blank _) h
theorem Lx.ms {c : UInt8} {s t : Tx} {P : List (Nat × Tx)} (hc : isMark c = true) (h : Lx s P t) : Lx (c :: s) ((5, [c]) :: P) t := Lx.app (s := [c]) (P := [(5, [c])]) (Lx.mark hc _) h
theorem stop_sp (t : Tx) : Stop isOfWord (32 :: t) := Stop.cons (by decide)
theorem stop_nl (t : Tx) : Stop isOfWord (10 :: t) := Stop.cons (by decide)
/-- The pieces of a function's head. -/
def headP (nm : ByteArray) (ps : List Int) (rt : Int) : List (Nat × Tx) := (1, byt nm) :: (5, [40]) :: (sepP (ps.map fun t => [(1, typeT t)]) ++ [(5, [41]), (1, typeT rt), (6, [])])
theorem Lx.head {nm : ByteArray} {ps : List Int} {rt : Int} (hn : IsW (byt nm)) (hp : ∀ t ∈ ps, tyB t = true) (hr : tyB rt = true) (t : Tx) : Lx (headT nm ps rt) (headP nm ps rt) t := by
  unfold headT headP
  refine Lx.app (P := [(1, byt nm)]) (Lx.word hn (Stop.cons (by decide))) (Lx.ms (by decide) ?_)
  have h3 : Lx (41 :: 32 :: (typeT rt ++ [10])) [(5, [41]), (1, typeT rt), (6, [])] t :=
    Lx.ms (by decide) (Lx.sp (Lx.app (P := [(1, typeT rt)]) (Lx.type hr (stop_nl _)) (Lx.line t)))
  have h2 := Lx.app (s := listT (ps.map typeT)) (u := 41 :: 32 :: (typeT rt ++ [10])) (Lx.list (f := typeT) (g := fun t => [(1, typeT t)]) (fun x hx t ht => Lx.type (hp x hx) ht) (Stop.cons (by decide))) h3
  simpa [List.append_assoc] using h2
def varP (v : PVar) : List (Nat × Tx) := [(1, [103, 108, 111, 98, 97, 108]), (1, byt v.nm), (2, decI v.size), (6, [])]
theorem Lx.var {v : PVar} (hn : IsW (byt v.nm)) (hs : 0 ≤ v.size ∧ v.size < 18446744073709551616) (t : Tx) : Lx (varT v) (varP v) t := by
  have h3 : Lx (32 :: (decI v.size ++ [10])) [(2, decI v.size), (6, [])] t := Lx.sp (Lx.app (P := [(2, decI v.size)]) (Lx.num (by omega) (Stop.digit (stop_nl _))) (Lx.line t))
  have h2 := Lx.app (s := byt v.nm) (P := [(1, byt v.nm)]) (Lx.word hn (stop_sp _)) h3
  have h1 := Lx.app (s := [103, 108, 111, 98, 97, 108]) (P := [(1, [103, 108, 111, 98, 97, 108])]) (Lx.word (isW_B (by decide)) (stop_sp _)) (Lx.sp h2)
  unfold varT
  rw [List.append_assoc]
  exact h1
def extP (x : PExt) : List (Nat × Tx) := (1, [101, 120, 116, 101, 114, 110]) :: headP x.nm x.ps x.rt
theorem Lx.ext {x : PExt} (hn : IsW (byt x.nm)) (hp : ∀ t ∈ x.ps, tyB t = true) (hr : tyB x.rt = true) (t : Tx) : Lx (extT x) (extP x) t :=
  Lx.app (s := [101, 120, 116, 101, 114, 110]) (P := [(1, [101, 120, 116, 101, 114, 110])]) (Lx.word (isW_B (by decide)) (stop_sp _)) (Lx.sp (Lx.head hn hp hr t))
/-- The pieces of flags. -/
def flagsQ (fl : Int) : List (Nat × Tx) := (if fl % 2 = 1 then [(1, [110, 115, 119])] else []) ++ (if fl / 2 % 2 = 1 then [(1, [110, 117, 119])] else []) ++ (if fl / 4 = 1 then [(1, [101, 120, 97, 99, 116])] else [])
end Go.Proofs.YtjomihlnjobndaaGreatDoor
/- How long the text of a module is at most. No program here. -/
namespace Go.Proofs.YtjomihlnjobndaaGreatDoor
set_option linter.unusedVariables false
set_option linter.unusedSimpArgs false

theorem dec_len' : ∀ (k n : Nat), n < 10 ^ (k + 1) → (Lib.decDigits n).length ≤ k + 1
  | 0, n, h => by rw [Lib.decDigits_one (by omega)]; simp
  | k + 1, n, h => by
    by_cases h1 : n < 10
    · rw [Lib.decDigits_one h1]; simp
    · rw [Lib.decDigits, dif_neg h1, List.length_append]
      have := dec_len' k (n / 10) (by rw [Nat.div_lt_iff_lt_mul (by omega)]; rw [Nat.pow_succ] at h; exact h)
      simp
      omega
theorem decI_len {n : Int} (h : n < 18446744073709551616) : (decI n).length ≤ 20 := dec_len' 19 n.toNat (by omega)
theorem typeT_len' (t : Int) : (typeT t).length ≤ 21 := by
  unfold typeT
  split
  · simp
  split
  · simp
  split
  · rename_i h
    have := decI_len (n := t) (by omega)
    simp
    omega
  · simp
theorem sepBy_len (sep : Tx) (K : Nat) : ∀ (l : List Tx), (∀ x ∈ l, x.length ≤ K) → (sepBy sep l).length ≤ l.length * (K + sep.length)
  | [], _ => by simp [sepBy]
  | [x], h => by
    have := h x (List.mem_singleton.2 rfl)
    simp [sepBy]
    omega
  | x :: y :: l, h => by
    have h1 := h x (List.mem_cons_self ..)
    have h2 := sepBy_len sep K (y :: l) (fun z hz => h z (List.mem_cons_of_mem _ hz))
    show (x ++ sep ++ sepBy sep (y :: l)).length ≤ ((y :: l).length + 1) * (K + sep.length)
    rw [List.length_append, List.length_append, Nat.add_mul]
    omega
theorem flatT_len {α : Type} (f : α → Tx) (z : α → Nat) (K : Nat) : ∀ (l : List α), (∀ x ∈ l, (f x).length ≤ z x * K) → (l.map f).flatten.length ≤ (l.map z).sum * K
  | [], _ => by simp
  | x :: l, h => by
    have h1 := h x (List.mem_cons_self ..)
    have h2 := flatT_len f z K l (fun y hy => h y (List.mem_cons_of_mem _ hy))
    rw [List.map_cons, List.map_cons, List.flatten_cons, List.length_append, List.sum_cons, Nat.add_mul]
    omega
theorem flatT_split {α : Type} (f : α → Tx) (l : List α) (i : Nat) (h : i < l.length) : (l.map f).flatten = ((l.take i).map f).flatten ++ (f l[i] ++ ((l.drop (i + 1)).map f).flatten) := by
  conv => lhs; rw [← List.take_append_drop i l, List.map_append, List.flatten_append, List.drop_eq_getElem_cons h, List.map_cons, List.flatten_cons]
theorem flatT_step {α : Type} (f : α → Tx) (l : List α) (i : Nat) (h : i < l.length) : ((l.take (i + 1)).map f).flatten = ((l.take i).map f).flatten ++ f l[i] := by
  rw [List.take_succ_eq_append_getElem h, List.map_append, List.flatten_append]
  simp
/-- The bounds that a module's names and numbers keep. -/
structure LenOk (m : PMod) : Prop where
  vs : ∀ v ∈ m.vs, v.nm.size ≤ 1048576
  xs : ∀ x ∈ m.xs, x.nm.size ≤ 1048576
  fs : ∀ f ∈ m.fs, f.nm.size ≤ 1048576
  z : modZ m ≤ 1048576
def insW (x : PIns) : Prop := x.n ≤ 9223372036854775807 ∧ ∀ a ∈ x.args, 0 ≤ a.bits ∧ a.bits < 18446744073709551616
theorem byt_len (s : ByteArray) : (byt s).length = s.size := by simp [byt]
theorem argT_len {m : PMod} (hm : LenOk m) {a : Arg} (h : argB m a = true) (hb : a.bits < 18446744073709551616) : (argT m.vs a).length ≤ 1048600 := by
  unfold argB at h
  unfold argT regT
  split
  · rename_i e
    rw [if_pos e, Bool.and_eq_true] at h
    have h1 : 0 ≤ a.n ∧ a.n ≤ 4095 := of_decide_eq_true h.1
    have := decI_len (n := a.n) (by omega)
    simp
    omega
  split
  · have := decI_len (n := a.bits) hb
    omega
  split
  · simp
  split
  · simp
  · cases e : m.vs[a.n.toNat]? with
    | none => simp
    | some g =>
      have := hm.vs g (List.mem_of_getElem? e)
      simp [byt_len]
      omega
theorem calT_len {m : PMod} (hm : LenOk m) (n : Int) : (calT m.xs m.fs n).length ≤ 1048576 := by
  unfold calT
  split
  · cases e : m.fs[n.toNat]? with
    | none => simp
    | some g => rw [byt_len]; exact hm.fs g (List.mem_of_getElem? e)
  · cases e : m.xs[(-1 - n).toNat]? with
    | none => simp
    | some g => rw [byt_len]; exact hm.xs g (List.mem_of_getElem? e)
theorem blockT_len {n : Int} (h : n < 18446744073709551616) : (blockT n).length ≤ 21 := by
  have := decI_len h
  unfold blockT
  simp
  omega
theorem opT_len (op : Int) : (opT op).length ≤ 6 := by
  by_cases h : op.toNat < 35
  · have : ∀ j : Fin 35, (opT (j.val : Int)).length ≤ 6 := by decide
    have h2 := this ⟨op.toNat, h⟩
    have e : opT ((op.toNat : Nat) : Int) = opT op := by unfold opT; rw [Int.toNat_natCast]
    rw [← e]
    exact h2
  · unfold opT
    rw [List.getElem?_eq_none (by simp; omega)]
    simp
theorem flagsT_len (fl : Int) : (flagsT fl).length ≤ 14 := by
  unfold flagsT
  rw [List.length_append, List.length_append]
  have h1 : (if fl % 2 = 1 then [32, 110, 115, 119] else [] : Tx).length ≤ 4 := by split <;> simp
  have h2 : (if fl / 2 % 2 = 1 then [32, 110, 117, 119] else [] : Tx).length ≤ 4 := by split <;> simp
  have h3 : (if fl / 4 = 1 then [32, 101, 120, 97, 99, 116] else [] : Tx).length ≤ 6 := by split <;> simp
  omega
theorem insB_arg {m : PMod} {x : PIns} (h : insB m x = true) : ∀ a ∈ x.args, argB m a = true := by
  unfold insB at h
  simp only [Bool.and_eq_true] at h
  exact List.all_eq_true.1 h.2
theorem insB_tg {m : PMod} {x : PIns} (h : insB m x = true) : ∀ t ∈ x.tg, 0 ≤ t ∧ t ≤ 999 := by
  unfold insB at h
  simp only [Bool.and_eq_true] at h
  intro t ht
  exact of_decide_eq_true (List.all_eq_true.1 h.1.2 t ht)
theorem insB_reg {m : PMod} {x : PIns} (h : insB m x = true) : x.reg ≤ 4095 := by
  unfold insB at h
  simp only [Bool.and_eq_true] at h
  have h1 := h.1.1.2
  unfold hasRegB at h1
  split at h1
  · omega
  · rw [Bool.and_eq_true] at h1
    have : 0 ≤ x.reg ∧ x.reg ≤ 4095 := of_decide_eq_true h1.1
    omega
theorem listA_len {m : PMod} (hm : LenOk m) {l : List Arg} (h : ∀ a ∈ l, argB m a = true) (hb : ∀ a ∈ l, 0 ≤ a.bits ∧ a.bits < 18446744073709551616) : (listT (l.map (argT m.vs))).length ≤ l.length * 1048602 := by
  have := sepBy_len [44, 32] 1048600 (l.map (argT m.vs)) (fun x hx => by
    obtain ⟨a, ha, rfl⟩ := List.mem_map.1 hx
    exact argT_len hm (h a ha) (hb a ha).2)
  rw [List.length_map] at this
  exact this
theorem listP_len (ps : List Int) : (listT (ps.map typeT)).length ≤ ps.length * 23 := by
  have := sepBy_len [44, 32] 21 (ps.map typeT) (fun x hx => by
    obtain ⟨a, ha, rfl⟩ := List.mem_map.1 hx
    exact typeT_len' a)
  rw [List.length_map] at this
  exact this
theorem headT_len (nm : ByteArray) (ps : List Int) (rt : Int) (h : nm.size ≤ 1048576) : (headT nm ps rt).length ≤ 1048610 + ps.length * 23 := by
  unfold headT
  have h1 := listP_len ps
  have h2 := typeT_len' rt
  simp only [List.length_append, List.length_cons, List.length_nil, byt_len]
  omega
theorem behindT_len {m : PMod} (hm : LenOk m) {x : PIns} (h : insB m x = true) (hw : insW x) : (behindT m x).length ≤ 1048700 + (x.args.length + x.tg.length) * 1048700 := by
  have hl := listA_len hm (insB_arg h) hw.2
  have t1 := typeT_len' x.n
  have t2 := typeT_len' x.ty
  have c1 := calT_len hm x.n
  have d1 := decI_len (n := x.n) (by have := hw.1; omega)
  unfold behindT
  split
  · simp only [List.length_cons, List.length_append, List.length_nil]; omega
  split
  · have hz : (listT ((x.tg.zip x.args).map (pairT m.vs))).length ≤ x.tg.length * 1048700 := by
      have := sepBy_len [44, 32] 1048690 ((x.tg.zip x.args).map (pairT m.vs)) (fun y hy => by
        obtain ⟨p, hp, rfl⟩ := List.mem_map.1 hy
        have ha := argT_len hm (insB_arg h p.2 (List.of_mem_zip hp).2) (hw.2 p.2 (List.of_mem_zip hp).2).2
        have hb := blockT_len (n := p.1) (by have := insB_tg h p.1 (List.of_mem_zip hp).1; omega)
        unfold pairT
        simp only [List.length_append, List.length_cons]
        omega)
      rw [List.length_map, List.length_zip] at this
      refine Nat.le_trans this ?_
      have : min x.tg.length x.args.length ≤ x.tg.length := Nat.min_le_left _ _
      simp only [List.length_cons, List.length_nil]
      omega
    split
    · simp; omega
    · simp only [List.length_cons, List.length_append]; omega
  split
  · simp only [List.length_cons]; omega
  split
  · simp only [List.length_cons, List.length_append, List.length_nil]; omega
  split
  · have hz : (listT (x.args.map (argT m.vs) ++ x.tg.map blockT)).length ≤ (x.args.length + x.tg.length) * 1048602 := by
      have := sepBy_len [44, 32] 1048600 (x.args.map (argT m.vs) ++ x.tg.map blockT) (fun y hy => by
        rcases List.mem_append.1 hy with hy | hy
        · obtain ⟨a, ha, rfl⟩ := List.mem_map.1 hy
          exact argT_len hm (insB_arg h a ha) (hw.2 a ha).2
        · obtain ⟨t, ht, rfl⟩ := List.mem_map.1 hy
          have hb := blockT_len (n := t) (by have := insB_tg h t ht; omega)
          omega)
      rw [List.length_append, List.length_map, List.length_map] at this
      exact this
    simp only [List.length_cons]
    omega
  split
  · simp
  · simp only [List.length_cons, List.length_append]; omega
theorem insT_len {m : PMod} (hm : LenOk m) {x : PIns} (h : insB m x = true) (hw : insW x) : (insT m x).length + 3 ≤ insZ x * 4194304 := by
  have h1 := behindT_len hm h hw
  have h2 := opT_len x.op
  have h3 := flagsT_len x.fl
  have h4 := decI_len (n := x.reg) (by have := insB_reg h; omega)
  unfold insT insZ regT
  have h5 : (if 0 ≤ x.reg then (37 :: decI x.reg) ++ [32, 61, 32] else [] : Tx).length ≤ 24 := by
    split
    · simp; omega
    · simp
  rw [List.length_append, List.length_append, List.length_append]
  omega
theorem lineT_len {m : PMod} (hm : LenOk m) {x : PIns} (h : insB m x = true) (hw : insW x) : (lineT m x).length ≤ insZ x * 4194304 := by
  have := insT_len hm h hw
  unfold lineT
  simp only [List.length_append, List.length_cons, List.length_nil]
  omega
theorem blkT_len {m : PMod} (hm : LenOk m) {c : List PIns} (h : c.all (insB m) = true) (hw : ∀ x ∈ c, insW x) (i : Nat) (hi : i < 18446744073709551616) : (blkT m i c).length ≤ (1 + codeZ c) * 4194304 := by
  have h1 := flatT_len (lineT m) insZ 4194304 c (fun x hx => lineT_len hm (List.all_eq_true.1 h x hx) (hw x hx))
  have h2 := blockT_len (n := (i : Int)) (by omega)
  unfold blkT codeZ
  rw [List.length_append, List.length_append]
  simp only [List.length_cons, List.length_nil]
  omega
theorem blks_len {m : PMod} (hm : LenOk m) : ∀ (bs : List (List PIns)) (j : Nat), (∀ c ∈ bs, c.all (insB m) = true) → (∀ c ∈ bs, ∀ x ∈ c, insW x) → j + bs.length < 18446744073709551616 → (bs.mapIdx fun i => blkT m (i + j)).flatten.length ≤ blksZ bs * 4194304
  | [], _, _, _, _ => by simp
  | c :: bs, j, h, hw, hj => by
    have h1 := blkT_len hm (h c (List.mem_cons_self ..)) (hw c (List.mem_cons_self ..)) (0 + j) (by simp at hj; omega)
    have h2 := blks_len hm bs (j + 1) (fun d hd => h d (List.mem_cons_of_mem _ hd)) (fun d hd => hw d (List.mem_cons_of_mem _ hd)) (by simp at hj; omega)
    rw [List.mapIdx_cons, List.flatten_cons, List.length_append]
    have e : (bs.mapIdx fun i => blkT m (i + 1 + j)) = bs.mapIdx fun i => blkT m (i + (j + 1)) := by
      congr 1
      funext i
      rw [show i + 1 + j = i + (j + 1) by omega]
    unfold blksZ at h2 ⊢
    rw [e, List.map_cons, List.sum_cons, Nat.add_mul]
    omega
theorem fnT_len {m : PMod} (hm : LenOk m) {f : PFn} (hn : f.nm.size ≤ 1048576) (h : ∀ c ∈ f.bs, c.all (insB m) = true) (hw : ∀ c ∈ f.bs, ∀ x ∈ c, insW x) (hl : f.bs.length ≤ 1048576) : (fnT m f).length ≤ fnZ f * 4194304 := by
  have h1 := headT_len f.nm f.ps f.rt hn
  have h2 := blks_len hm f.bs 0 h hw (by omega)
  unfold fnT fnZ
  rw [List.length_append, List.length_append, List.length_append]
  have e : f.bs.mapIdx (blkT m) = f.bs.mapIdx fun i => blkT m (i + 0) := rfl
  rw [e]
  simp only [List.length_cons, List.length_nil]
  omega
theorem varT_len {v : PVar} (h : v.nm.size ≤ 1048576) (hs : v.size ≤ 9223372036854775807) : (varT v).length ≤ 1 * 4194304 := by
  have := decI_len (n := v.size) (by omega)
  unfold varT
  simp only [List.length_append, List.length_cons, List.length_nil, byt_len]
  omega
theorem extT_len {x : PExt} (h : x.nm.size ≤ 1048576) : (extT x).length ≤ extZ x * 4194304 := by
  have := headT_len x.nm x.ps x.rt h
  unfold extT extZ
  rw [List.length_append]
  simp only [List.length_cons, List.length_nil]
  omega
theorem modT_len {wd : Tx → Bool} {m : PMod} (hm : LenOk m) (hv : ∀ v ∈ m.vs, v.size ≤ 9223372036854775807) (hw : ∀ f ∈ m.fs, ∀ c ∈ f.bs, ∀ x ∈ c, insW x) (h : sayB wd m = true) : (modT m).length ≤ 4398046511104 := by
  have h1 := flatT_len varT (fun _ => 1) 4194304 m.vs (fun v hv' => varT_len (hm.vs v hv') (hv v hv'))
  have h2 := flatT_len extT extZ 4194304 m.xs (fun x hx => extT_len (hm.xs x hx))
  have hz := hm.z
  have h3 := flatT_len (fnT m) fnZ 4194304 m.fs (fun f hf => fnT_len hm (hm.fs f hf) (fun c hc => by
    unfold sayB at h
    rw [Bool.and_eq_true] at h
    have := List.all_eq_true.1 h.2 f hf
    unfold fnB at this
    rw [Bool.and_eq_true] at this
    exact List.all_eq_true.1 this.2 c hc) (hw f hf) (by
      have a1 := blksZ_len f.bs
      have a2 : fnZ f ≤ (m.fs.map fnZ).sum := sum_mem fnZ hf
      unfold fnZ at a2
      unfold modZ at hz
      unfold fnZ at hz
      omega))
  unfold modT
  unfold modZ at hz
  rw [List.length_append, List.length_append]
  have e : (m.vs.map fun _ => (1 : Nat)).sum = m.vs.length := sum_one m.vs
  rw [e] at h1
  omega
end Go.Proofs.YtjomihlnjobndaaGreatDoor
/- The pieces of a spelled text: an instruction, a line, a block, a function, the whole module. No program here. -/
namespace Go.Proofs.YtjomihlnjobndaaGreatDoor
set_option linter.unusedVariables false
set_option linter.unusedSimpArgs false

theorem Lx.opt {c : Prop} [Decidable c] {w t : Tx} (hw : IsW w) (ht : Stop isOfWord t) : Lx (if c then 32 :: w else []) (if c then [(1, w)] else []) t := by
  split
  · exact Lx.sp (Lx.word hw ht)
  · exact Lx.nil t
theorem stop_opt {c : Prop} [Decidable c] {w u : Tx} (hu : Stop isOfWord u) : Stop isOfWord ((if c then 32 :: w else []) ++ u) := by
  split
  · exact stop_sp _
  · exact hu
theorem Lx.flags {fl : Int} {t : Tx} (ht : Stop isOfWord t) : Lx (flagsT fl) (flagsQ fl) t :=
  Lx.app (Lx.app (Lx.opt (isW_B (by decide)) (stop_opt (stop_opt ht))) (Lx.opt (isW_B (by decide)) (stop_opt ht))) (Lx.opt (isW_B (by decide)) ht)
theorem stop_flags {fl : Int} {u : Tx} (hu : Stop isOfWord u) : Stop isOfWord (flagsT fl ++ u) := by
  unfold flagsT
  rw [List.append_assoc, List.append_assoc]
  exact stop_opt (stop_opt (stop_opt hu))
def pairP (gs : List PVar) (p : Int × Arg) : List (Nat × Tx) := (1, blockT p.1) :: argP gs p.2
/-- What stands behind the operation's word. -/
def behindQ (m : PMod) (x : PIns) : List (Nat × Tx) :=
  if 20 ≤ x.op ∧ x.op ≤ 22 then (1, typeT x.n) :: (sepP (x.args.map (argP m.vs)) ++ [(1, [116, 111]), (1, typeT x.ty)])
  else if x.op = 25 then (1, typeT x.ty) :: (if x.args = [] then [] else sepP ((x.tg.zip x.args).map (pairP m.vs)))
  else if x.op = 26 then [(2, decI x.n)]
  else if x.op = 30 then (1, calT m.xs m.fs x.n) :: (5, [40]) :: (sepP (x.args.map (argP m.vs)) ++ [(5, [41])])
  else if x.op = 29 ∨ x.op = 31 ∨ x.op = 32 then sepP (x.args.map (argP m.vs) ++ x.tg.map fun b => [(1, blockT b)])
  else if x.op = 34 ∨ x.op = 33 ∧ x.args = [] then []
  else (1, typeT x.ty) :: sepP (x.args.map (argP m.vs))
theorem stop_behind {m : PMod} {x : PIns} {u : Tx} (hu : Stop isOfWord u) : Stop isOfWord (behindT m x ++ u) := by
  unfold behindT
  by_cases c : 20 ≤ x.op ∧ x.op ≤ 22
  · rw [if_pos c]; exact stop_sp _
  rw [if_neg c]
  by_cases c : x.op = 25
  · rw [if_pos c]; exact stop_sp _
  rw [if_neg c]
  by_cases c : x.op = 26
  · rw [if_pos c]; exact stop_sp _
  rw [if_neg c]
  by_cases c : x.op = 30
  · rw [if_pos c]; exact stop_sp _
  rw [if_neg c]
  by_cases c : x.op = 29 ∨ x.op = 31 ∨ x.op = 32
  · rw [if_pos c]; exact stop_sp _
  rw [if_neg c]
  by_cases c : x.op = 34 ∨ x.op = 33 ∧ x.args = []
  · rw [if_pos c]; exact hu
  rw [if_neg c]
  exact stop_sp _
/-- The names of a module are words. -/
structure Nms (m : PMod) : Prop where
  vs : ∀ v ∈ m.vs, IsW (byt v.nm)
  xs : ∀ x ∈ m.xs, IsW (byt x.nm)
  fs : ∀ f ∈ m.fs, IsW (byt f.nm)
theorem isW_cal {m : PMod} (hN : Nms m) {n t : Int} (h : calR m.xs m.fs n = some t) : IsW (calT m.xs m.fs n) := by
  unfold calR at h
  unfold calT
  by_cases c : 0 ≤ n
  · rw [if_pos c] at h ⊢
    cases e : m.fs[n.toNat]? with
    | none => rw [e] at h; cases h
    | some f => exact hN.fs f (List.mem_of_getElem? e)
  · rw [if_neg c] at h ⊢
    cases e : m.xs[(-1 - n).toNat]? with
    | none => rw [e] at h; cases h
    | some f => exact hN.xs f (List.mem_of_getElem? e)
theorem Lx.behind {m : PMod} {x : PIns} {t : Tx} (h : insB m x = true) (hN : Nms m) (hx : insW x) (ht : Stop isOfWord t) : Lx (behindT m x) (behindQ m x) t := by
  unfold insB at h
  simp only [Bool.and_eq_true, decide_eq_true_eq] at h
  obtain ⟨⟨⟨⟨⟨⟨⟨hop, hcnt⟩, hty⟩, hnum⟩, hfl⟩, hreg⟩, htg⟩, hargs⟩ := h
  have hA : ∀ a ∈ x.args, ∀ t, Stop isOfWord t → Lx (argT m.vs a) (argP m.vs a) t := fun a ha t ht => Lx.arg (List.all_eq_true.1 hargs a ha) hN.vs (hx.2 a ha) ht
  unfold behindT behindQ
  unfold hasTyB at hty
  unfold numB at hnum
  by_cases c : 20 ≤ x.op ∧ x.op ≤ 22
  · rw [if_pos c, if_pos c]
    rw [if_pos c] at hnum
    rw [if_neg (by omega), if_neg (by omega), if_neg (by omega), if_neg (by omega)] at hty
    refine Lx.sp (Lx.app (P := [(1, typeT x.n)]) (Lx.type hnum (stop_sp _)) (Lx.sp ?_))
    have h4 : Lx (32 :: [116, 111] ++ 32 :: typeT x.ty) [(1, [116, 111]), (1, typeT x.ty)] t := Lx.app (P := [(1, [116, 111])]) (Lx.sp (Lx.word (isW_B (by decide)) (stop_sp _))) (Lx.sp (Lx.type hty ht))
    have h5 := Lx.app (Lx.list hA (stop_sp _)) h4
    simpa [List.append_assoc] using h5
  rw [if_neg c, if_neg c]
  rw [if_neg c] at hnum
  by_cases c5 : x.op = 25
  · rw [if_pos c5, if_pos c5]
    rw [if_neg (by omega), if_neg (by omega), if_neg (by omega), if_neg (by omega)] at hty
    refine Lx.sp ?_
    by_cases ca : x.args = []
    · rw [if_pos ca, if_pos ca, List.append_nil]
      exact Lx.type hty ht
    · rw [if_neg ca, if_neg ca]
      refine Lx.app (P := [(1, typeT x.ty)]) (Lx.type hty (stop_sp _)) (Lx.sp (Lx.list (fun p hp t ht => ?_) ht))
      exact Lx.app (P := [(1, blockT p.1)]) (Lx.word (isW_block _) (stop_sp _)) (Lx.sp (hA p.2 (List.of_mem_zip hp).2 t ht))
  rw [if_neg c5, if_neg c5]
  by_cases c6 : x.op = 26
  · rw [if_pos c6, if_pos c6]
    rw [if_pos c6] at hnum
    have hn := of_decide_eq_true hnum
    exact Lx.sp (Lx.num (by have := hx.1; omega) ht.digit)
  rw [if_neg c6, if_neg c6]
  by_cases c7 : x.op = 30
  · rw [if_pos c7, if_pos c7]
    rw [if_neg (by omega), if_pos c7] at hty
    have hcal := isW_cal hN (of_decide_eq_true hty)
    refine Lx.sp (Lx.app (P := [(1, calT m.xs m.fs x.n)]) (Lx.word hcal (Stop.cons (by decide))) (Lx.ms (by decide) ?_))
    exact Lx.app (Lx.list hA (Stop.cons (by decide))) (Lx.mark (by decide) t)
  rw [if_neg c7, if_neg c7]
  by_cases c8 : x.op = 29 ∨ x.op = 31 ∨ x.op = 32
  · rw [if_pos c8, if_pos c8]
    refine Lx.sp ?_
    have := Lx.sep (x.args.map (fun a => (argT m.vs a, argP m.vs a)) ++ x.tg.map fun b => (blockT b, [(1, blockT b)])) (t := t) (fun y hy t ht => by
      rcases List.mem_append.1 hy with hy | hy
      · obtain ⟨a, ha, rfl⟩ := List.mem_map.1 hy
        exact hA a ha t ht
      · obtain ⟨b, hb, rfl⟩ := List.mem_map.1 hy
        exact Lx.word (isW_block _) ht) ht
    rw [List.map_append, List.map_append, List.map_map, List.map_map, List.map_map, List.map_map] at this
    exact this
  rw [if_neg c8, if_neg c8]
  by_cases c9 : x.op = 34 ∨ x.op = 33 ∧ x.args = []
  · rw [if_pos c9, if_pos c9]
    exact Lx.nil t
  rw [if_neg c9, if_neg c9]
  have hty2 : tyB x.ty = true := by
    rw [if_neg (by omega), if_neg (by omega), if_neg (by omega)] at hty
    by_cases c3 : x.op = 33
    · rw [if_pos c3] at hty
      rw [Bool.and_eq_true] at hty
      exact hty.1
    · rw [if_neg c3] at hty
      exact hty
  by_cases ca : x.args = []
  · rw [ca]
    refine Lx.sp (Lx.app (P := [(1, typeT x.ty)]) (Lx.type hty2 (stop_sp _)) ?_)
    exact Lx.blank t
  · exact Lx.sp (Lx.app (P := [(1, typeT x.ty)]) (Lx.type hty2 (stop_sp _)) (Lx.sp (Lx.list hA ht)))
/-- The pieces of an instruction, with its line's end. -/
def lineQ (m : PMod) (x : PIns) : List (Nat × Tx) := (if 0 ≤ x.reg then [(3, decI x.reg), (5, [61])] else []) ++ ((1, opT x.op) :: (flagsQ x.fl ++ (behindQ m x ++ [(6, [])])))
theorem Lx.lineT {m : PMod} {x : PIns} (h : insB m x = true) (hN : Nms m) (hx : insW x) (t : Tx) : Lx (lineT m x) (lineQ m x) t := by
  have hB := fun {t : Tx} => Lx.behind (t := t) h hN hx
  unfold insB at h
  simp only [Bool.and_eq_true, decide_eq_true_eq] at h
  obtain ⟨⟨⟨⟨⟨⟨⟨hop, hcnt⟩, hty⟩, hnum⟩, hfl⟩, hreg⟩, htg⟩, hargs⟩ := h
  have h1 : Lx (behindT m x ++ [10]) (behindQ m x ++ [(6, [])]) t := Lx.app (hB (stop_nl _)) (Lx.line t)
  have h2 : Lx (flagsT x.fl ++ (behindT m x ++ [10])) (flagsQ x.fl ++ (behindQ m x ++ [(6, [])])) t := Lx.app (Lx.flags (by rw [List.append_assoc]; exact stop_behind (stop_nl _))) h1
  have h3 : Lx (opT x.op ++ (flagsT x.fl ++ (behindT m x ++ [10]))) ((1, opT x.op) :: (flagsQ x.fl ++ (behindQ m x ++ [(6, [])]))) t :=
    Lx.app (P := [(1, opT x.op)]) (Lx.word (isW_op hop) (by rw [List.append_assoc, List.append_assoc]; exact stop_flags (stop_behind (stop_nl _)))) h2
  have h4 : Lx ((if 0 ≤ x.reg then regT x.reg ++ [32, 61, 32] else []) ++ (opT x.op ++ (flagsT x.fl ++ (behindT m x ++ [10])))) (lineQ m x) t := by
    unfold lineQ
    by_cases c : 0 ≤ x.reg
    · rw [if_pos c, if_pos c]
      have hr : x.reg.toNat ≤ 4095 := by
        unfold hasRegB at hreg
        rw [if_neg (by omega), Bool.and_eq_true] at hreg
        have := of_decide_eq_true hreg.1
        omega
      have h5 : Lx [32, 61, 32] [(5, [61])] (opT x.op ++ (flagsT x.fl ++ (behindT m x ++ [10])) ++ t) := Lx.sp (Lx.ms (by decide) (Lx.blank _))
      exact Lx.app (Lx.app (P := [(3, decI x.reg)]) (Q := [(5, [61])]) (Lx.reg hr (Stop.digit (stop_sp _))) h5) h3
    · rw [if_neg c, if_neg c]
      exact h3
  unfold Go.Proofs.YtjomihlnjobndaaGreatDoor.lineT insT
  have h6 := Lx.sp (Lx.sp h4)
  simpa [List.append_assoc] using h6
theorem Lx.flat {α : Type} {f : α → Tx} {g : α → List (Nat × Tx)} : ∀ (l : List α), (∀ x ∈ l, ∀ t, Lx (f x) (g x) t) → ∀ t, Lx ((l.map f).flatten) ((l.map g).flatten) t
  | [], h, t => Lx.nil t
  | x :: l, h, t => by
    rw [List.map_cons, List.map_cons, List.flatten_cons, List.flatten_cons]
    exact Lx.app (h x (by simp) _) (Lx.flat l (fun y hy => h y (List.mem_cons_of_mem _ hy)) t)
def blkQ (m : PMod) (i : Nat) (c : List PIns) : List (Nat × Tx) := (1, blockT i) :: (5, [58]) :: (6, []) :: (c.map (lineQ m)).flatten
theorem Lx.blk {m : PMod} {i : Nat} {c : List PIns} (hN : Nms m) (h : ∀ x ∈ c, insB m x = true) (hx : ∀ x ∈ c, insW x) (t : Tx) : Lx (blkT m i c) (blkQ m i c) t := by
  have h1 := Lx.flat c (f := Go.Proofs.YtjomihlnjobndaaGreatDoor.lineT m) (g := lineQ m) (fun x hxc t => Lx.lineT (h x hxc) hN (hx x hxc) t) t
  have h2 := Lx.ms (c := 58) (by decide) (Lx.app (s := [10]) (P := [(6, [])]) (Lx.line _) h1)
  have h3 := Lx.app (s := blockT i) (P := [(1, blockT i)]) (Lx.word (isW_block _) (Stop.cons (by decide))) h2
  unfold blkT
  rw [List.append_assoc]
  exact h3
theorem Lx.flat' : ∀ (l : List (Tx × List (Nat × Tx))), (∀ x ∈ l, ∀ t, Lx x.1 x.2 t) → ∀ t, Lx ((l.map Prod.fst).flatten) ((l.map Prod.snd).flatten) t := fun l h t => Lx.flat l h t
def fnQ (m : PMod) (f : PFn) : List (Nat × Tx) := (1, [102, 117, 110, 99]) :: (headP f.nm f.ps f.rt ++ ((f.bs.mapIdx (blkQ m)).flatten ++ [(1, [101, 110, 100]), (6, [])]))
theorem Lx.fn {m : PMod} {f : PFn} (hN : Nms m) (hf : f ∈ m.fs) (hp : ∀ t ∈ f.ps, tyB t = true) (hr : tyB f.rt = true) (h : ∀ c ∈ f.bs, ∀ x ∈ c, insB m x = true) (hx : ∀ c ∈ f.bs, ∀ x ∈ c, insW x) (t : Tx) : Lx (fnT m f) (fnQ m f) t := by
  have h1 : Lx [101, 110, 100, 10] [(1, [101, 110, 100]), (6, [])] t := Lx.app (s := [101, 110, 100]) (u := [10]) (P := [(1, [101, 110, 100])]) (Lx.word (isW_B (by decide)) (stop_nl _)) (Lx.line t)
  have h2 : ∀ t, Lx ((f.bs.mapIdx (blkT m)).flatten) ((f.bs.mapIdx (blkQ m)).flatten) t := by
    intro t
    have := Lx.flat' (f.bs.mapIdx fun i c => (blkT m i c, blkQ m i c)) (fun y hy t => by
      obtain ⟨i, hi, rfl⟩ := List.mem_mapIdx.1 hy
      exact Lx.blk hN (h _ (List.getElem_mem hi)) (hx _ (List.getElem_mem hi)) t) t
    rw [show (f.bs.mapIdx fun i c => (blkT m i c, blkQ m i c)).map Prod.fst = f.bs.mapIdx (blkT m) from List.ext_getElem (by simp) (by simp), show (f.bs.mapIdx fun i c => (blkT m i c, blkQ m i c)).map Prod.snd = f.bs.mapIdx (blkQ m) from List.ext_getElem (by simp) (by simp)] at this
    exact this
  have h3 := Lx.app (Lx.head (hN.fs f hf) hp hr _) (Lx.app (h2 _) h1)
  have h4 := Lx.app (s := [102, 117, 110, 99]) (P := [(1, [102, 117, 110, 99])]) (Lx.word (isW_B (by decide)) (stop_sp _)) (Lx.sp h3)
  unfold fnT fnQ
  simpa [List.append_assoc] using h4
/-- The pieces of a module. -/
def modQ (m : PMod) : List (Nat × Tx) := (m.vs.map varP).flatten ++ (m.xs.map extP).flatten ++ (m.fs.map (fnQ m)).flatten
/-- A module that may be said: the pieces of its text. -/
theorem Lx.mod {wd : Tx → Bool} {m : PMod} (hwd : ∀ w, wd w = true → IsW w) (h : sayB wd m = true) (hv : ∀ v ∈ m.vs, v.size < 18446744073709551616) (hx : ∀ f ∈ m.fs, ∀ c ∈ f.bs, ∀ x ∈ c, insW x) (t : Tx) : Lx (modT m) (modQ m) t := by
  unfold sayB at h
  rw [Bool.and_eq_true, Bool.and_eq_true] at h
  obtain ⟨⟨h1, h2⟩, h3⟩ := h
  have a1 : ∀ v ∈ m.vs, IsW (byt v.nm) ∧ 0 ≤ v.size := fun v hm => by
    have := List.all_eq_true.1 h1 v hm
    rw [Bool.and_eq_true] at this
    exact ⟨hwd _ this.1, of_decide_eq_true this.2⟩
  have hd : ∀ {nm : ByteArray} {ps : List Int} {rt : Int}, headB wd nm ps rt = true → IsW (byt nm) ∧ (∀ t ∈ ps, tyB t = true) ∧ tyB rt = true := fun {nm ps rt} hh => by
    unfold headB at hh
    rw [Bool.and_eq_true, Bool.and_eq_true] at hh
    exact ⟨hwd _ hh.1.1, List.all_eq_true.1 hh.1.2, hh.2⟩
  have a2 := fun x (hm : x ∈ m.xs) => hd (List.all_eq_true.1 h2 x hm)
  have a3 : ∀ f ∈ m.fs, (IsW (byt f.nm) ∧ (∀ t ∈ f.ps, tyB t = true) ∧ tyB f.rt = true) ∧ ∀ c ∈ f.bs, ∀ x ∈ c, insB m x = true := fun f hm => by
    have := List.all_eq_true.1 h3 f hm
    unfold fnB at this
    rw [Bool.and_eq_true] at this
    exact ⟨hd this.1, fun c hc => List.all_eq_true.1 (List.all_eq_true.1 this.2 c hc)⟩
  have hN : Nms m := ⟨fun v hm => (a1 v hm).1, fun x hm => (a2 x hm).1, fun f hm => (a3 f hm).1.1⟩
  unfold modT modQ
  refine Lx.app (Lx.app (Lx.flat _ (fun v hm t => Lx.var (a1 v hm).1 ⟨(a1 v hm).2, hv v hm⟩ t) _) (Lx.flat _ (fun x hm t => Lx.ext (a2 x hm).1 (a2 x hm).2.1 (a2 x hm).2.2 t) _)) (Lx.flat _ (fun f hm t => ?_) _)
  exact Lx.fn hN hm (a3 f hm).1.2.1 (a3 f hm).1.2.2 (a3 f hm).2 (hx f hm) t
/-- The text's pieces, by the lexer. -/
theorem lexed_mod {wd : Tx → Bool} {m : PMod} (hwd : ∀ w, wd w = true → IsW w) (h : sayB wd m = true) (hv : ∀ v ∈ m.vs, v.size < 18446744073709551616) (hx : ∀ f ∈ m.fs, ∀ c ∈ f.bs, ∀ x ∈ c, insW x) :
    ∃ ts, Lexed (modT m) 1 1 ts none ∧ ts.map KB = modQ m := by
  obtain ⟨l, c, pre, e, k⟩ := Lx.mod hwd h hv hx [] 1 1
  have := k [] none (.done rfl)
  rw [List.append_nil, List.append_nil] at this
  exact ⟨pre, this, e⟩
end Go.Proofs.YtjomihlnjobndaaGreatDoor
/- What the parser reads of a spelled part: types, blocks, operations, numbers are told back by their words. No program here. -/
namespace Go.Proofs.YtjomihlnjobndaaGreatDoor
set_option linter.unusedVariables false
set_option linter.unusedSimpArgs false

theorem dec_inj {a b : Nat} (ha : a ≤ 18446744073709551615) (hb : b ≤ 18446744073709551615) (h : Lib.decDigits a = Lib.decDigits b) : a = b := by
  have h1 := parse_dec (Nat.le_refl _) a ha
  have h2 := parse_dec (Nat.le_refl _) b hb
  rw [h, h2] at h1
  injection h1 with h1
  exact h1.symm
theorem numBehind_dec {c : UInt8} {n most : Nat} (hn : n ≤ most) (hm : most ≤ 18446744073709551614) : numBehind c (c :: Lib.decDigits n) most = some n := by
  unfold numBehind
  dsimp only
  rw [if_pos rfl]
  rw [List.find?_eq_some_iff_getElem]
  refine ⟨by simp, n, by simp; omega, by simp, fun j hj => ?_⟩
  simp only [List.getElem_range, Bool.not_eq_true', beq_eq_false_iff_ne]
  intro e
  have := dec_inj (by omega) (by omega) e
  omega
theorem typeOf_type {t : Int} (h : tyB t = true) : typeOfP (typeT t) = some t.toNat := by
  have : ∀ k : Fin 66, typeOfP (typeT (k.val : Int)) = some k.val ∨ 0 < k.val ∧ k.val < 65 := by
    intro k
    by_cases h0 : k.val = 0
    · left; rw [h0]; rfl
    · by_cases h1 : k.val = 65
      · left; rw [h1]; rfl
      · right; have := k.isLt; omega
  have ht := of_decide_eq_true h
  obtain ⟨k, rfl⟩ : ∃ k : Nat, t = (k : Int) := ⟨t.toNat, by omega⟩
  rcases this ⟨k, by omega⟩ with h1 | h1
  · exact h1
  · simp only at h1
    have e : typeT (k : Int) = 105 :: Lib.decDigits k := by
      unfold typeT
      rw [if_neg (by omega), if_neg (by omega), if_pos (by omega)]
      rfl
    rw [e]
    unfold typeOfP
    rw [if_neg (by simp), if_neg (by simp), numBehind_dec (by omega) (by decide)]
    simp
    exact h1.1
theorem blockOf_block {n : Int} (h : 0 ≤ n ∧ n ≤ 999) (line col : Nat) : blockOfP ⟨1, blockT n, line, col⟩ = some n.toNat := by
  unfold blockOfP
  rw [if_pos (show ((1 : Nat) == 1) = true from rfl)]
  exact numBehind_dec (by omega) (by decide)
theorem opOf_op {op : Int} (h : 1 ≤ op ∧ op ≤ 34) (line col : Nat) : opOfP ⟨1, opT op, line, col⟩ = op.toNat := by
  have : ∀ k : Fin 35, 0 < k.val → (((List.range 35).find? (fun j : Nat => decide (0 < j) && opT (j : Int) == opT (k.val : Int))).getD 0) = k.val := by decide
  obtain ⟨k, rfl⟩ : ∃ k : Nat, op = (k : Int) := ⟨op.toNat, by omega⟩
  unfold opOfP
  rw [if_pos (by simp)]
  exact this ⟨k, by omega⟩ (by show 0 < k; omega)
theorem numOf_dec {k n : Nat} (hn : n < 18446744073709551616) (line col : Nat) : numOf ⟨k, Lib.decDigits n, line, col⟩ = n := by
  unfold numOf Lib.parseUintB
  dsimp only
  rw [if_neg (dec_ne n), parse_dec (by decide) n (by omega)]
end Go.Proofs.YtjomihlnjobndaaGreatDoor
