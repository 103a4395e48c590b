/- A text behind another one: its pieces; where faults stand; what ParseStops asks, of the pure parser. No program here. -/
import Derived.Test.YtjomihlnjobndaaGreatDoorPsGoCM
import Derived.Test.YtjomihlnjobndaaGreatDoorMg19
import Derived.Test.YtjomihlnjobndaaGreatDoorLexPM
namespace Go.Proofs.YtjomihlnjobndaaGreatDoor
set_option linter.unusedVariables false
set_option linter.unusedSimpArgs false

theorem lexed_ex : ∀ (n : Nat) (l : List UInt8) (line col : Nat), l.length ≤ n → ∃ ts f, Lexed l line col ts f
  | n, l, line, col, hn => by
    cases h : l.drop (passed l) with
    | nil => exact ⟨_, _, .done h⟩
    | cons c r =>
      have hlen : (c :: r).length ≤ l.length := by rw [← h, List.length_drop]; omega
      cases h2 : first (c :: r) with
      | bad e => exact ⟨_, _, .bad h h2⟩
      | ok k b s =>
        obtain ⟨z1, z2, z3⟩ := first_size h2
        cases n with
        | zero => simp only [List.length_cons] at hlen; omega
        | succ n =>
          obtain ⟨ts, f, h3⟩ := lexed_ex n ((c :: r).drop s) (if k = 6 then line + 1 else line) (if k = 6 then 1 else col + passed l + s) (by rw [List.length_drop]; omega)
          exact ⟨_, _, .step h h2 h3⟩
theorem lexed_on {l : List UInt8} {line col : Nat} {ts : List Tok} {f : Option Flt} (h : Lexed l line col ts f) : 0 < line → On ts ∧ ∀ x, f = some x → 0 < x.line := by
  induction h with
  | done _ => intro _; exact ⟨fun t ht => (by cases ht), fun x hx => (by cases hx)⟩
  | bad _ _ => intro h; exact ⟨fun t ht => (by cases ht), fun x hx => (by cases hx; exact h)⟩
  | step h1 h2 _ ih =>
    rename_i l line col c r k b s ts f h3
    intro h
    obtain ⟨i1, i2⟩ := ih (by split <;> omega)
    refine ⟨fun t ht => ?_, i2⟩
    rcases List.mem_cons.1 ht with rfl | ht
    · exact h
    · exact i1 t ht
theorem endTk_ln (t : Tx) : Ln (endTk t) := by show 0 < 1 + _; omega
theorem mapM_bad {α β : Type} {f : α → Except Flt β} {x : Flt} : ∀ {l : List α}, l.mapM f = .error x → ∃ a ∈ l, f a = .error x
  | [], h => by rw [List.mapM_nil] at h; cases h
  | a :: l, h => by
    rw [List.mapM_cons] at h
    cases ha : f a with
    | error y =>
      rw [ha] at h
      cases h
      exact ⟨a, List.mem_cons_self .., ha⟩
    | ok b =>
      rw [ha] at h
      change (l.mapM f >>= _) = _ at h
      cases hl : l.mapM f with
      | error y =>
        rw [hl] at h
        cases h
        obtain ⟨c, hc, hf⟩ := mapM_bad hl
        exact ⟨c, List.mem_cons_of_mem _ hc, hf⟩
      | ok r => rw [hl] at h; cases h
section
variable {en : Tok} {m : PMod} {A : List Tok} (he : Ln en) (ha : On A)
include he ha
theorem answer_on {find : Tx → Option Int} {i : Int} {x : Flt} (e : answerP en A find i = .error x) : 0 < x.line := by
  unfold answerP at e
  simp only at e
  split at e
  · cases e
  · cases e
    show 0 < (A.getD i.toNat en).line
    rw [List.getD_eq_getElem?_getD]
    cases h : A[i.toNat]? with
    | none => exact he
    | some t => exact ha t (List.mem_of_getElem? h)
theorem settleA_on {a : Arg} {x : Flt} (e : settleA en m A a = .error x) : 0 < x.line := by
  unfold settleA at e
  by_cases c : a.kind = 5
  · simp only [if_pos c] at e
    cases h1 : answerP en A (findVarP m) a.n with
    | error f => rw [h1] at e; cases e; exact answer_on he ha h1
    | ok k => rw [h1] at e; cases e
  · simp only [if_neg c] at e; cases e
theorem settleI_on {y : PIns} {x : Flt} (e : settleI en m A y = .error x) : 0 < x.line := by
  unfold settleI at e
  have tail : ∀ {z : PIns}, (y.args.mapM (settleA en m A) >>= fun l => (Pure.pure { z with args := l } : Except Flt PIns)) = .error x → 0 < x.line := fun {z} h => by
    cases h3 : y.args.mapM (settleA en m A) with
    | error f =>
      rw [h3] at h
      cases h
      obtain ⟨a, _, hf⟩ := mapM_bad h3
      exact settleA_on he ha hf
    | ok r => rw [h3] at h; cases h
  by_cases c : y.op = 30
  · simp only [if_pos c] at e
    cases h1 : answerP en A (findCalP m) y.n with
    | error f => rw [h1] at e; cases e; exact answer_on he ha h1
    | ok k =>
      rw [h1] at e
      exact tail (z := { y with n := k, ty := (calR m.xs m.fs k).getD 0 }) e
  · simp only [if_neg c] at e
    exact tail (z := y) e
theorem settleM_on {x : Flt} (e : settleM en m A = .error x) : 0 < x.line := by
  unfold settleM at e
  cases h1 : m.fs.mapM (settleF en m A) with
  | ok r => rw [h1] at e; cases e
  | error f =>
    rw [h1] at e
    cases e
    obtain ⟨g, _, hg⟩ := mapM_bad h1
    unfold settleF at hg
    cases h2 : g.bs.mapM (fun c : List PIns => c.mapM (settleI en m A)) with
    | ok r => rw [h2] at hg; cases hg
    | error f2 =>
      rw [h2] at hg
      cases hg
      obtain ⟨c, _, hc⟩ := mapM_bad h2
      obtain ⟨y, _, hy⟩ := mapM_bad hc
      exact settleI_on he ha hy
end
theorem parse_on {en : Tok} {ts : List Tok} (he : Ln en) (ho : On ts) {x : Flt} (e : parseP en ts = .error x) : 0 < x.line := by
  unfold parseP at e
  have h := lines_st he (ts.length + 1) ⟨[], [], []⟩ ⟨ts, []⟩ ho (fun t ht => by cases ht)
  change ((qLines en (ts.length + 1) ⟨[], [], []⟩ ⟨ts, []⟩) >>= fun y => settleM en y.1 y.2.asked) = _ at e
  cases hq : qLines en (ts.length + 1) ⟨[], [], []⟩ ⟨ts, []⟩ with
  | error f => rw [hq] at e h; cases e; exact h
  | ok y =>
    rw [hq] at e h
    exact settleM_on he h.2.2.1 e
/-- Of a module that is read the names are not empty. -/
theorem MS.no_var {m m1 : PMod} (h : MS m) (e : m1.vs = m.vs) : findVarP m1 [] = none := by
  unfold findVarP
  have : m1.vs.findIdx? (fun v => byt v.nm == []) = none := by
    rw [List.findIdx?_eq_none_iff, e]
    intro v hv
    have := (h.vs v hv).1.1
    cases hb : byt v.nm with
    | nil => rw [hb] at this; exact absurd this (Nat.lt_irrefl _)
    | cons a l => rfl
  rw [this]; rfl
theorem MS.no_cal {m m1 : PMod} (h : MS m) (e : m1.xs = m.xs) (e2 : m1.fs.map PFn.nm = m.fs.map PFn.nm) : findCalP m1 [] = none := by
  unfold findCalP
  have h1 : m1.xs.findIdx? (fun x => byt x.nm == []) = none := by
    rw [List.findIdx?_eq_none_iff, e]
    intro v hv
    have := (h.xs v hv).1.1
    cases hb : byt v.nm with
    | nil => rw [hb] at this; exact absurd this (Nat.lt_irrefl _)
    | cons a l => rfl
  have h2 : m1.fs.findIdx? (fun x => byt x.nm == []) = none := by
    rw [List.findIdx?_eq_none_iff]
    intro v hv
    have hm : v.nm ∈ m.fs.map PFn.nm := by rw [← e2]; exact List.mem_map_of_mem (f := PFn.nm) hv
    obtain ⟨f, hf, ef⟩ := List.mem_map.1 hm
    have := (h.fs f hf).1.1
    rw [ef] at this
    cases hb : byt v.nm with
    | nil => rw [hb] at this; exact absurd this (Nat.lt_irrefl _)
    | cons a l => rfl
  rw [h1, h2]; rfl
theorem settleM_names {en : Tok} {m p : PMod} {A : List Tok} (e : settleM en m A = .ok p) : m.vs = p.vs ∧ m.xs = p.xs ∧ m.fs.map PFn.nm = p.fs.map PFn.nm := by
  unfold settleM at e
  cases h1 : m.fs.mapM (settleF en m A) with
  | error f => rw [h1] at e; cases e
  | ok r =>
    rw [h1] at e
    cases e
    refine ⟨rfl, rfl, ((each_of h1).map (g := PFn.nm) (k := PFn.nm) fun f _ g hg => ?_).symm⟩
    unfold settleF at hg
    cases h2 : f.bs.mapM (fun c : List PIns => c.mapM (settleI en m A)) with
    | error f2 => rw [h2] at hg; cases hg
    | ok r2 => rw [h2] at hg; cases hg; rfl
/-- What is read of the first text stands at the front of what is read of both. -/
def Front (p q : PMod) : Prop := p.vs.length ≤ q.vs.length ∧ q.vs.take p.vs.length = p.vs ∧ p.xs.length ≤ q.xs.length ∧ q.xs.take p.xs.length = p.xs ∧ p.fs.length ≤ q.fs.length ∧ q.fs.take p.fs.length = p.fs
theorem parse_front {a b : Tx} {ts ts' : List Tok} {p q : PMod} (ha : a.length ≤ 65536) (h1 : Lexed a 1 1 ts none) (h2 : Lexed (a ++ 10 :: b) 1 1 ts' none) (e1 : parseP (endTk a) ts = .ok p) (e2 : parseP (endTk (a ++ 10 :: b)) ts' = .ok q) : Front p q := by
  have hM : MS p := parseP_bounds (endTk_gd _) (lexed_gd h1 ha) e1
  obtain ⟨ts2, f2, h3⟩ := lexed_ex b.length b ((place a 1 1).1 + 1) 1 (Nat.le_refl _)
  have h4 := lexed_join h1 rfl 10 rfl b ts2 f2 h3
  obtain ⟨et, ef⟩ := h2.unique h4
  subst et
  obtain ⟨o1, -⟩ := lexed_on h1 (by decide)
  obtain ⟨o2, -⟩ := lexed_on h2 (by decide)
  have he : Ed (endTk a) ⟨6, [], (place a 1 1).1, (place a 1 1).2⟩ := ⟨rfl, rfl, rfl, rfl⟩
  unfold parseP at e1 e2
  change ((qLines (endTk a) (ts.length + 1) ⟨[], [], []⟩ ⟨ts, []⟩) >>= fun y => settleM (endTk a) y.1 y.2.asked) = _ at e1
  cases q1 : qLines (endTk a) (ts.length + 1) ⟨[], [], []⟩ ⟨ts, []⟩ with
  | error f => rw [q1] at e1; cases e1
  | ok y =>
    rw [q1] at e1
    obtain ⟨m1, t1⟩ := y
    change settleM (endTk a) m1 t1.asked = _ at e1
    obtain ⟨g1, k2, L2, g2, g3, g4⟩ := lines_goes (en' := endTk (a ++ 10 :: b)) (more := ts2) he (endTk_ln a) (ts.length + 1) _ ⟨[], [], []⟩ ts [] m1 t1 o1 (fun t ht => by cases ht) (Nat.lt_succ_self _) (Nat.lt_succ_self _) q1
    have s1 := lines_st (endTk_ln a) (ts.length + 1) ⟨[], [], []⟩ ⟨ts, []⟩ o1 (fun t ht => by cases ht)
    rw [q1] at s1
    have oA : On t1.asked := s1.2.2.1
    have o3 : On L2 := fun t ht => by
      rcases g2 with rfl | rfl
      · exact o2 t (List.mem_append_right _ ht)
      · exact o2 t (List.mem_append_right _ (List.mem_cons_of_mem _ ht))
    change ((qLines (endTk (a ++ 10 :: b)) _ ⟨[], [], []⟩ ⟨ts ++ ⟨6, [], (place a 1 1).1, (place a 1 1).2⟩ :: ts2, []⟩) >>= fun y => settleM (endTk (a ++ 10 :: b)) y.1 y.2.asked) = _ at e2
    rw [g4] at e2
    cases q2 : qLines (endTk (a ++ 10 :: b)) k2 m1 ⟨L2, t1.asked⟩ with
    | error f => rw [q2] at e2; cases e2
    | ok z =>
      rw [q2] at e2
      obtain ⟨n1, t2⟩ := z
      change settleM (endTk (a ++ 10 :: b)) n1 t2.asked = _ at e2
      obtain ⟨hE, -, -, -, B, hB⟩ := (lines_st (endTk_ln (a ++ 10 :: b)) k2 m1).run (s := ⟨L2, t1.asked⟩) o3 oA q2
      have hB2 : t2.asked = t1.asked ++ B := hB
      rw [hB2] at e2
      obtain ⟨n2, n3, n4⟩ := settleM_names e1
      exact settleM_same (en := endTk a) rfl hE (hM.no_var n2) (hM.no_cal n3 n4) e1 e2
end Go.Proofs.YtjomihlnjobndaaGreatDoor
