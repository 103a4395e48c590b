/- A line's parts, as the program lays them together: the same text. No program here. -/
import Derived.Test.YtmampoakdjjbiaaGreatDoorSpPure
namespace Go.Proofs.YtmampoakdjjbiaaGreatDoor
set_option linter.unusedVariables false
set_option linter.unusedSimpArgs false

/-- One part more. -/
def layS (acc p : Tx) : Tx := if acc ≠ [] ∧ p ≠ [] then acc ++ 32 :: p else acc ++ p
def layT (ps : List Tx) : Tx := ps.foldl layS []
def beh (p : Tx) : Tx := if p = [] then [] else 32 :: p
theorem layT_snoc (ps : List Tx) (p : Tx) : layT (ps ++ [p]) = layS (layT ps) p := by unfold layT; rw [List.foldl_append]; rfl
theorem layS_ne {acc : Tx} (h : acc ≠ []) (p : Tx) : layS acc p = acc ++ beh p := by
  unfold layS beh
  by_cases e : p = []
  · rw [if_neg (fun k => k.2 e), if_pos e, e]
  · rw [if_pos ⟨h, e⟩, if_neg e]
theorem fold_ne : ∀ (ps : List Tx) (acc : Tx), acc ≠ [] → ps.foldl layS acc = acc ++ (ps.map beh).flatten
  | [], acc, _ => by simp
  | p :: ps, acc, h => by
    rw [List.foldl_cons, layS_ne h, fold_ne ps _ (by simp [h])]
    simp only [List.map_cons, List.flatten_cons, List.append_assoc]
theorem layT_cons {p : Tx} (h : p ≠ []) (ps : List Tx) : layT (p :: ps) = p ++ (ps.map beh).flatten := by
  unfold layT
  rw [List.foldl_cons, show layS [] p = p from by unfold layS; rw [if_neg fun k => k.1 rfl]; rfl, fold_ne ps p h]
theorem layT_nil (ps : List Tx) : layT ([] :: ps) = layT ps := by
  unfold layT
  rw [List.foldl_cons]
  rfl
theorem beh_ne {p : Tx} (h : p ≠ []) : beh p = 32 :: p := if_neg h
theorem beh_nil : beh [] = [] := rfl
/-- The words of flags, as the program finds them. -/
def flagsP (fl : Int) : Tx := layT ((if fl % 2 = 1 then [[110, 115, 119]] else []) ++ (if fl / 2 % 2 = 1 then [[110, 117, 119]] else []) ++ (if fl / 4 % 2 = 1 then [[101, 120, 97, 99, 116]] else []))
theorem flags_same {fl : Int} (h : 0 ≤ fl ∧ fl ≤ 7) : beh (flagsP fl) = flagsT fl := by
  have : fl = 0 ∨ fl = 1 ∨ fl = 2 ∨ fl = 3 ∨ fl = 4 ∨ fl = 5 ∨ fl = 6 ∨ fl = 7 := by omega
  rcases this with rfl | rfl | rfl | rfl | rfl | rfl | rfl | rfl <;> rfl
def formP (m : PMod) (x : PIns) : List Tx :=
  if 20 ≤ x.op ∧ x.op ≤ 22 then [typeT x.n, listT (x.args.map (argT m.vs)), [116, 111], typeT x.ty]
  else if x.op = 25 then [flagsP x.fl, typeT x.ty, listT ((x.tg.zip x.args).map fun p => layT [blockT p.1, argT m.vs p.2])]
  else if x.op = 26 then [decI x.n]
  else if x.op = 30 then [calT m.xs m.fs x.n ++ 40 :: (listT (x.args.map (argT m.vs)) ++ [41])]
  else if x.op = 29 ∨ x.op = 31 ∨ x.op = 32 ∨ x.op = 34 then [listT (x.args.map (argT m.vs) ++ x.tg.map blockT)]
  else if x.op = 33 ∧ x.args = [] then []
  else [flagsP x.fl, typeT x.ty, listT (x.args.map (argT m.vs))]
def instrP (m : PMod) (x : PIns) : List Tx := (if x.reg < 0 then [] else [regT x.reg, [61]]) ++ opT x.op :: formP m x

theorem dec_ne (n : Nat) : Lib.decDigits n ≠ [] := by
  rw [Lib.decDigits]
  split <;> simp
theorem typeT_ne {t : Int} (h : tyB t = true) : typeT t ≠ [] := by
  have ht := of_decide_eq_true h
  unfold typeT
  by_cases h0 : t = 0
  · rw [if_pos h0]; simp
  rw [if_neg h0]
  by_cases h1 : t = 65
  · rw [if_pos h1]; simp
  rw [if_neg h1, if_pos (by omega)]
  simp
theorem argT_ne (gs : List PVar) (a : Arg) : argT gs a ≠ [] := by
  unfold argT regT decI
  split
  · simp
  split
  · exact dec_ne _
  split
  · simp
  split
  · simp
  · simp
theorem sepBy_ne {sep : Tx} : ∀ {l : List Tx}, l ≠ [] → (∀ x ∈ l, x ≠ []) → sepBy sep l ≠ []
  | [], h, _ => absurd rfl h
  | [x], _, h => h x (List.mem_singleton.2 rfl)
  | x :: y :: l, _, h => by
    show x ++ sep ++ sepBy sep (y :: l) ≠ []
    have := h x (List.mem_cons_self ..)
    simp [this]
theorem list_ne {gs : List PVar} {l : List Arg} (h : l ≠ []) : listT (l.map (argT gs)) ≠ [] :=
  sepBy_ne (by simpa using h) (fun x hx => by
    obtain ⟨a, _, rfl⟩ := List.mem_map.1 hx
    exact argT_ne gs a)
theorem pair_lay (gs : List PVar) (p : Int × Arg) : layT [blockT p.1, argT gs p.2] = pairT gs p := by
  rw [layT_cons (by simp [blockT])]
  show blockT p.1 ++ (beh (argT gs p.2) ++ []) = pairT gs p
  rw [beh_ne (argT_ne _ _), List.append_nil]
  rfl
theorem opT_ne {op : Int} (h : 1 ≤ op ∧ op ≤ 34) : opT op ≠ [] := by
  obtain ⟨k, rfl⟩ : ∃ k : Nat, op = k := ⟨op.toNat, by omega⟩
  have h1 : 1 ≤ k ∧ k ≤ 34 := by omega
  have : ∀ j : Fin 35, 1 ≤ j.val → opT (j.val : Int) ≠ [] := by decide
  exact this ⟨k, by omega⟩ h1.1
theorem behindT_lay {m : PMod} {x : PIns} (h : insB m x = true) : ((formP m x).map beh).flatten = flagsT x.fl ++ behindT m x := by
  unfold insB at h
  simp only [Bool.and_eq_true, decide_eq_true_eq] at h
  obtain ⟨⟨⟨⟨⟨⟨⟨h1, h2⟩, h3⟩, h4⟩, h5⟩, h6⟩, h7⟩, h8⟩ := h
  have hz : 13 < x.op → flagsT x.fl = [] := fun h => by
    unfold flB at h5
    rw [if_pos h] at h5
    rw [of_decide_eq_true h5]
    rfl
  have hzp : 13 < x.op → flagsP x.fl = [] := fun h => by
    unfold flB at h5
    rw [if_pos h] at h5
    rw [of_decide_eq_true h5]
    rfl
  unfold formP behindT
  by_cases c1 : 20 ≤ x.op ∧ x.op ≤ 22
  · rw [if_pos c1, if_pos c1, hz (by omega)]
    have n1 : typeT x.n ≠ [] := typeT_ne (by unfold numB at h4; rw [if_pos c1] at h4; exact h4)
    have n2 : typeT x.ty ≠ [] := typeT_ne (by unfold hasTyB at h3; rw [if_neg (by omega), if_neg (by omega), if_neg (by omega), if_neg (by omega)] at h3; exact h3)
    have n3 : x.args ≠ [] := fun e => by
      unfold cntB at h2
      rw [if_neg (by omega), if_neg (by omega), if_neg (by omega), if_neg (by omega), if_neg (by omega), if_neg (by omega), if_pos (.inl c1)] at h2
      have := (of_decide_eq_true h2).2
      rw [e] at this
      simp at this
    have n4 := list_ne (gs := m.vs) n3
    simp only [List.map_cons, List.map_nil, List.flatten_cons, List.flatten_nil, beh_ne n1, beh_ne n2, beh_ne n4, List.nil_append, List.cons_append, List.append_assoc, List.append_nil]
    rfl
  rw [if_neg c1, if_neg c1]
  by_cases c2 : x.op = 25
  · rw [if_pos c2, if_pos c2, hz (by omega), hzp (by omega)]
    have n2 : typeT x.ty ≠ [] := typeT_ne (by unfold hasTyB at h3; rw [if_neg (by omega), if_neg (by omega), if_neg (by omega), if_neg (by omega)] at h3; exact h3)
    have hp : (fun p : Int × Arg => layT [blockT p.1, argT m.vs p.2]) = pairT m.vs := funext fun p => pair_lay m.vs p
    rw [hp]
    by_cases e : x.args = []
    · rw [if_pos e, e]
      simp only [List.zip_nil_right, List.map_cons, List.map_nil, List.flatten_cons, List.flatten_nil, beh_nil, beh_ne n2, List.nil_append, List.append_nil]
      show 32 :: typeT x.ty ++ beh [] = _
      rw [beh_nil, List.append_nil]
    · have ht : x.tg.length = x.args.length := by
        unfold cntB at h2
        rw [if_pos c2] at h2
        exact of_decide_eq_true h2
      have n5 : listT ((x.tg.zip x.args).map (pairT m.vs)) ≠ [] := sepBy_ne (fun k => by
        have := congrArg List.length k
        rw [List.length_map, List.length_zip, ht, Nat.min_self, List.length_nil] at this
        exact e (List.length_eq_zero_iff.1 this)) (fun y hy => by
        obtain ⟨p, _, rfl⟩ := List.mem_map.1 hy
        simp [pairT, blockT])
      rw [if_neg e]
      simp only [List.map_cons, List.map_nil, List.flatten_cons, List.flatten_nil, beh_nil, beh_ne n2, beh_ne n5, List.nil_append, List.append_nil, List.cons_append]
  rw [if_neg c2, if_neg c2]
  by_cases c3 : x.op = 26
  · rw [if_pos c3, if_pos c3, hz (by omega)]
    simp only [List.map_cons, List.map_nil, List.flatten_cons, List.flatten_nil, beh_ne (dec_ne _), decI, List.nil_append, List.append_nil]
  rw [if_neg c3, if_neg c3]
  by_cases c4 : x.op = 30
  · rw [if_pos c4, if_pos c4, hz (by omega)]
    have n1 : calT m.xs m.fs x.n ++ 40 :: (listT (x.args.map (argT m.vs)) ++ [41]) ≠ [] := by simp
    simp only [List.map_cons, List.map_nil, List.flatten_cons, List.flatten_nil, beh_ne n1, List.nil_append, List.append_nil]
  rw [if_neg c4, if_neg c4]
  by_cases c5 : x.op = 34
  · rw [if_pos (by omega), if_neg (by omega), if_pos (.inl c5), hz (by omega)]
    unfold cntB at h2
    rw [if_neg (by omega), if_neg (by omega), if_neg (by omega), if_neg (by omega), if_neg (by omega), if_pos (by omega)] at h2
    obtain ⟨e1, e2⟩ := of_decide_eq_true h2
    rw [List.length_eq_zero_iff.1 e1, List.length_eq_zero_iff.1 e2]
    rfl
  by_cases c6 : x.op = 29 ∨ x.op = 31 ∨ x.op = 32
  · rw [if_pos (by omega), if_pos c6, hz (by omega)]
    have n1 : listT (x.args.map (argT m.vs) ++ x.tg.map blockT) ≠ [] := sepBy_ne (fun k => by
      have k1 := (List.append_eq_nil_iff.1 k)
      have e1 : x.args.length = 0 := by have := congrArg List.length k1.1; simpa using this
      have e2 : x.tg.length = 0 := by have := congrArg List.length k1.2; simpa using this
      unfold cntB at h2
      rcases c6 with c | c | c
      · rw [if_neg (by omega), if_neg (by omega), if_neg (by omega), if_neg (by omega), if_neg (by omega), if_neg (by omega), if_neg (by omega), if_neg (by omega)] at h2
        have := (of_decide_eq_true h2).2
        omega
      · rw [if_neg (by omega), if_neg (by omega), if_neg (by omega), if_pos c] at h2
        have := (of_decide_eq_true h2).1
        omega
      · rw [if_neg (by omega), if_neg (by omega), if_neg (by omega), if_neg (by omega), if_pos c] at h2
        have := (of_decide_eq_true h2).1
        omega) (fun y hy => by
      rcases List.mem_append.1 hy with hy | hy
      · obtain ⟨a, _, rfl⟩ := List.mem_map.1 hy
        exact argT_ne _ _
      · obtain ⟨a, _, rfl⟩ := List.mem_map.1 hy
        simp [blockT])
    simp only [List.map_cons, List.map_nil, List.flatten_cons, List.flatten_nil, beh_ne n1, List.nil_append, List.append_nil]
  rw [if_neg (by omega), if_neg c6]
  by_cases c7 : x.op = 33 ∧ x.args = []
  · rw [if_pos c7, if_pos (.inr c7), hz (by omega)]
    rfl
  rw [if_neg c7, if_neg (fun k => k.elim c5 c7)]
  have n2 : typeT x.ty ≠ [] := typeT_ne (by
    unfold hasTyB at h3
    rw [if_neg (by omega), if_neg (by omega), if_neg (by omega)] at h3
    by_cases c : x.op = 33
    · rw [if_pos c] at h3
      rw [Bool.and_eq_true] at h3; exact h3.1
    · rw [if_neg c] at h3; exact h3)
  have n3 : x.args ≠ [] := fun e => by
    by_cases c : x.op = 33
    · exact c7 ⟨c, e⟩
    unfold cntB at h2
    rw [e] at h2
    rw [if_neg (by omega), if_neg (by omega), if_neg (by omega), if_neg (by omega), if_neg (by omega), if_neg (by omega)] at h2
    split at h2
    · have := (of_decide_eq_true h2).2; simp at this
    split at h2
    · have := (of_decide_eq_true h2).2; simp at this
    · have := (of_decide_eq_true h2).2; simp at this
  have n4 := list_ne (gs := m.vs) n3
  have hfl : beh (flagsP x.fl) = flagsT x.fl := by
    by_cases c : 13 < x.op
    · rw [hz c, hzp c]; rfl
    · unfold flB at h5
      rw [if_neg c] at h5
      exact flags_same (of_decide_eq_true h5)
  simp only [List.map_cons, List.map_nil, List.flatten_cons, List.flatten_nil, hfl, beh_ne n2, beh_ne n4, List.nil_append, List.append_nil, List.cons_append]
/-- The parts laid together are the line. -/
theorem ins_lay {m : PMod} {x : PIns} (h : insB m x = true) : layT (instrP m x) = insT m x := by
  have hb := behindT_lay h
  have ho : opT x.op ≠ [] := opT_ne (by
    unfold insB at h
    simp only [Bool.and_eq_true, decide_eq_true_eq] at h
    exact h.1.1.1.1.1.1.1)
  unfold instrP insT
  by_cases c : x.reg < 0
  · rw [if_pos c, if_neg (by omega), List.nil_append, List.nil_append, layT_cons ho, hb]
  · rw [if_neg c, if_pos (by omega)]
    show layT (regT x.reg :: [61] :: opT x.op :: formP m x) = _
    rw [layT_cons (by simp [regT])]
    simp only [List.map_cons, List.flatten_cons, hb, beh_ne ho, beh_ne (show ([61] : Tx) ≠ [] by simp), List.append_assoc, List.cons_append, List.nil_append]
end Go.Proofs.YtmampoakdjjbiaaGreatDoor
