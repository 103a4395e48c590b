/- Package refine and the document's answers: values and bytes; rows, events and outcomes as plain data. -/
import Derived.Test.YtglkbnckfkliaaaMD
namespace Go.Proofs.Ytglkbnckfkliaaa
open Go.RowKit Go.Maps
set_option linter.unusedVariables false
set_option linter.unusedSimpArgs false
set_option maxRecDepth 100000

def sameV (v w : Vl) : Bool := v.k == w.k && v.b == w.b && v.bk == w.bk && v.o == w.o
def sameY (v w : By) : Bool := v.k == w.k && v.b == w.b && v.bk == w.bk && v.o == w.o && v.i == w.i
theorem sameV_iff {v w : Vl} : sameV v w = true ↔ v = w := by
  unfold sameV
  simp only [Bool.and_eq_true, beq_iff_eq]
  exact ⟨fun h => vl_ext h.1.1.1 h.1.1.2 h.1.2 h.2, fun h => by subst h; exact ⟨⟨⟨rfl, rfl⟩, rfl⟩, rfl⟩⟩
theorem sameY_iff {v w : By} : sameY v w = true ↔ v = w := by
  unfold sameY
  simp only [Bool.and_eq_true, beq_iff_eq]
  exact ⟨fun h => by_ext h.1.1.1.1 h.1.1.1.2 h.1.1.2 h.1.2 h.2, fun h => by subst h; exact ⟨⟨⟨⟨rfl, rfl⟩, rfl⟩, rfl⟩, rfl⟩⟩
/-- Is a value, a byte refined by another one? -/
def refV (v w : Vl) : Bool := if v.k = 0 then true else if v.k = 3 then w.k != 0 else sameV v w
def refY (b c : By) : Bool := if b.k = 0 then true else if b.k = 3 then c.k == 3 || c.k == 1 else sameY b c
theorem refV_self (v : Vl) : refV v v = true := by
  unfold refV
  split
  · rfl
  · rename_i h
    split
    · simpa using h
    · exact sameV_iff.2 rfl
theorem refY_self (v : By) : refY v v = true := by
  unfold refY
  split
  · rfl
  · rename_i h
    split
    · rename_i h3; simp [h3]
    · exact sameY_iff.2 rfl
theorem refV_trans {u v w : Vl} (h1 : refV u v = true) (h2 : refV v w = true) : refV u w = true := by
  unfold refV at h1 h2 ⊢
  by_cases a : u.k = 0
  · rw [if_pos a]
  · rw [if_neg a] at h1 ⊢
    by_cases b : u.k = 3
    · rw [if_pos b] at h1 ⊢
      have h0 : v.k ≠ 0 := by simpa using h1
      rw [if_neg h0] at h2
      by_cases c : v.k = 3
      · rw [if_pos c] at h2; exact h2
      · rw [if_neg c] at h2; have := sameV_iff.1 h2; subst this; exact h1
    · rw [if_neg b] at h1
      have := sameV_iff.1 h1
      subst this
      rw [if_neg a] at h2
      exact h2
theorem refY_trans {u v w : By} (h1 : refY u v = true) (h2 : refY v w = true) : refY u w = true := by
  unfold refY at h1 h2 ⊢
  by_cases a : u.k = 0
  · rw [if_pos a]
  · rw [if_neg a] at h1 ⊢
    by_cases b : u.k = 3
    · rw [if_pos b] at h1 ⊢
      have h0 : v.k = 3 ∨ v.k = 1 := by simpa using h1
      rw [if_neg (by omega)] at h2
      by_cases c : v.k = 3
      · rw [if_pos c] at h2; exact h2
      · rw [if_neg c] at h2; have := sameY_iff.1 h2; subst this; exact h1
    · rw [if_neg b] at h1
      have := sameY_iff.1 h1
      subst this
      rw [if_neg a] at h2
      exact h2
/-- Row against row. -/
def allB {α : Type} (f : α → α → Bool) : List α → List α → Bool
  | [], [] => true
  | x :: xs, y :: ys => f x y && allB f xs ys
  | _, _ => false
theorem allB_len {α : Type} {f : α → α → Bool} : ∀ {xs ys : List α}, xs.length ≠ ys.length → allB f xs ys = false
  | [], [], h => absurd rfl h
  | [], _ :: _, _ => rfl
  | _ :: _, [], _ => rfl
  | x :: xs, y :: ys, h => by
    unfold allB
    rw [allB_len (xs := xs) (ys := ys) (by simpa using h), Bool.and_false]
theorem allB_all {α : Type} {f : α → α → Bool} : ∀ {xs ys : List α}, xs.length = ys.length → (∀ i (h1 : i < xs.length) (h2 : i < ys.length), f xs[i] ys[i] = true) → allB f xs ys = true
  | [], [], _, _ => rfl
  | [], _ :: _, h, _ => by cases h
  | _ :: _, [], h, _ => by cases h
  | x :: xs, y :: ys, h, hf => by
    unfold allB
    have h0 := hf 0 (by simp) (by simp)
    simp only [List.getElem_cons_zero] at h0
    rw [h0, Bool.true_and]
    exact allB_all (by simpa using h) (fun i h1 h2 => by
      have := hf (i + 1) (by simpa using h1) (by simpa using h2)
      simpa using this)
theorem allB_not {α : Type} {f : α → α → Bool} : ∀ {xs ys : List α} (i : Nat) (h1 : i < xs.length) (h2 : i < ys.length), f xs[i] ys[i] = false → allB f xs ys = false
  | [], _, i, h1, _, _ => absurd h1 (Nat.not_lt_zero _)
  | _ :: _, [], i, _, h2, _ => absurd h2 (Nat.not_lt_zero _)
  | x :: xs, y :: ys, 0, _, _, hf => by
    unfold allB
    simp only [List.getElem_cons_zero] at hf
    rw [hf, Bool.false_and]
  | x :: xs, y :: ys, i + 1, h1, h2, hf => by
    unfold allB
    rw [allB_not (xs := xs) (ys := ys) i (by simpa using h1) (by simpa using h2) (by simpa using hf), Bool.and_false]
theorem allB_at {α : Type} {f : α → α → Bool} {xs ys : List α} (h : allB f xs ys = true) (i : Nat) (h1 : i < xs.length) (h2 : i < ys.length) : f xs[i] ys[i] = true := by
  cases e : f xs[i] ys[i] with
  | true => rfl
  | false => rw [allB_not i h1 h2 e] at h; cases h
theorem allB_self {α : Type} {f : α → α → Bool} (hf : ∀ x, f x x = true) (xs : List α) : allB f xs xs = true := allB_all rfl fun i _ _ => hf _
/-- A row of bytes that lies somewhere; an event; an outcome. -/
structure LBy where
  p : Option Addr
  n : Nat
  c : Nat
  l : List By
structure LEv where
  ext : Int
  ap : Option Addr
  an : Nat
  ac : Nat
  args : List Vl
  vp : Option Addr
  vn : Nat
  vc : Nat
  vars : List LBy
structure LOut where
  st : Int
  ret : Vl
  ep : Option Addr
  en : Nat
  ec : Nat
  evs : List LEv
  vp : Option Addr
  vn : Nat
  vc : Nat
  vars : List LBy
  steps : Int
def lbC (x : LBy) : List Value := [.slice x.p x.n x.c]
def evC (x : LEv) : List Value := [.int .i64 x.ext, .slice x.ap x.an x.ac, .slice x.vp x.vn x.vc]
def outC (o : LOut) : List Value := [.int .i64 o.st, .int .i64 o.ret.k, .int .u64 o.ret.b, .int .i64 o.ret.bk, .int .i64 o.ret.o, .slice o.ep o.en o.ec, .slice o.vp o.vn o.vc, .int .i64 o.steps]
def LBy.val (x : LBy) : Value := .slice x.p x.n x.c
def LEv.val (x : LEv) : Value := .agg #[.int .i64 x.ext, .slice x.ap x.an x.ac, .slice x.vp x.vn x.vc]
def LOut.val (o : LOut) : Value := .agg #[.int .i64 o.st, .int .i64 o.ret.k, .int .u64 o.ret.b, .int .i64 o.ret.bk, .int .i64 o.ret.o, .slice o.ep o.en o.ec, .slice o.vp o.vn o.vc, .int .i64 o.steps]
abbrev VsIn (B : Nat) (w : World) (p : Option Addr) (n c : Nat) (l : List Vl) : Prop := ListIn vlC NoMem B w p n c l
def LByIn (B : Nat) (w : World) (x : LBy) : Prop := BysIn B w x.p x.n x.c x.l
abbrev LLIn (B : Nat) (w : World) (p : Option Addr) (n c : Nat) (l : List LBy) : Prop := ListIn lbC LByIn B w p n c l
def EvIn (B : Nat) (w : World) (x : LEv) : Prop := VsIn B w x.ap x.an x.ac x.args ∧ LLIn B w x.vp x.vn x.vc x.vars
abbrev EvsIn (B : Nat) (w : World) (p : Option Addr) (n c : Nat) (l : List LEv) : Prop := ListIn evC EvIn B w p n c l
def OutIn (B : Nat) (w : World) (o : LOut) : Prop := EvsIn B w o.ep o.en o.ec o.evs ∧ LLIn B w o.vp o.vn o.vc o.vars
theorem lasts_LBy : Lasts LByIn := fun _ _ _ _ _ hb hB h => ListIn.lasts lasts_NoMem h hb hB
theorem lasts_Ev : Lasts EvIn := fun _ _ _ _ _ hb hB h => ⟨h.1.lasts lasts_NoMem hb hB, h.2.lasts lasts_LBy hb hB⟩
theorem lasts_Out : Lasts OutIn := fun _ _ _ _ _ hb hB h => ⟨h.1.lasts lasts_Ev hb hB, h.2.lasts lasts_LBy hb hB⟩
def refL (a b : LBy) : Bool := allB refY a.l b.l
def refE (a b : LEv) : Bool := if a.ext = b.ext then (if allB refV a.args b.args = true then allB refL a.vars b.vars else false) else false
def tog (os ps : List LEv) : Bool := allB refE (os.take (min os.length ps.length)) (ps.take (min os.length ps.length))
def isOp (p : LOut) : Bool := p.st == 2 || p.st == 5
def mayE (o p : LOut) : Bool :=
  if o.st = 0 then (if isOp p = true then decide (p.evs.length ≤ o.evs.length) else if p.st = 0 then (if p.evs.length = o.evs.length then (if refV o.ret p.ret = true then allB refL o.vars p.vars else false) else false) else false)
  else if o.st = 1 ∨ o.st = 3 ∨ o.st = 5 then (if isOp p = true then true else decide (o.evs.length ≤ p.evs.length)) else true
def refO (o p : LOut) : Bool := if o.st = 4 then true else if p.st = 4 then false else if tog o.evs p.evs = true then mayE o p else false
theorem refL_self (a : LBy) : refL a a = true := allB_self refY_self _
theorem refE_self (a : LEv) : refE a a = true := by unfold refE; rw [if_pos rfl, if_pos (allB_self refV_self _)]; exact allB_self refL_self _
theorem refO_self (o : LOut) : refO o o = true := by
  unfold refO mayE
  by_cases h4 : o.st = 4
  · rw [if_pos h4]
  · rw [if_neg h4, if_neg h4, if_pos (show tog o.evs o.evs = true from allB_self refE_self _)]
    have q : allB refL o.vars o.vars = true := allB_self refL_self _
    by_cases h0 : o.st = 0
    · rw [if_pos h0]
      split
      · simp
      · rw [if_pos rfl, if_pos (refV_self _), q]
    · rw [if_neg h0]
      split
      · split <;> simp
      · rfl

/-! The program's and the document's Value and Byte. -/
theorem eq_cases (v w : Vl) : v = w ∨ v.k ≠ w.k ∨ (v.k = w.k ∧ v.b ≠ w.b) ∨ (v.k = w.k ∧ v.b = w.b ∧ v.bk ≠ w.bk) ∨ (v.k = w.k ∧ v.b = w.b ∧ v.bk = w.bk ∧ v.o ≠ w.o) := by
  by_cases a : v.k = w.k
  · by_cases b : v.b = w.b
    · by_cases c : v.bk = w.bk
      · by_cases d : v.o = w.o
        · exact .inl (vl_ext a b c d)
        · exact .inr (.inr (.inr (.inr ⟨a, b, c, d⟩)))
      · exact .inr (.inr (.inr (.inl ⟨a, b, c⟩)))
    · exact .inr (.inr (.inl ⟨a, b⟩))
  · exact .inr (.inl a)
theorem eq_casesY (v w : By) : v = w ∨ v.k ≠ w.k ∨ (v.k = w.k ∧ v.b ≠ w.b) ∨ (v.k = w.k ∧ v.b = w.b ∧ v.bk ≠ w.bk) ∨ (v.k = w.k ∧ v.b = w.b ∧ v.bk = w.bk ∧ v.o ≠ w.o) ∨ (v.k = w.k ∧ v.b = w.b ∧ v.bk = w.bk ∧ v.o = w.o ∧ v.i ≠ w.i) := by
  by_cases a : v.k = w.k
  · by_cases b : v.b = w.b
    · by_cases c : v.bk = w.bk
      · by_cases d : v.o = w.o
        · by_cases e : v.i = w.i
          · exact .inl (by_ext a b c d e)
          · exact .inr (.inr (.inr (.inr (.inr ⟨a, b, c, d, e⟩))))
        · exact .inr (.inr (.inr (.inr (.inl ⟨a, b, c, d⟩))))
      · exact .inr (.inr (.inr (.inl ⟨a, b, c⟩)))
    · exact .inr (.inr (.inl ⟨a, b⟩))
  · exact .inr (.inl a)
theorem ne_b {a b : Int} (h : a ≠ b) : (a == b) = false := by simpa using h
theorem ne_n {a b : Int} (h : a ≠ b) : (a != b) = true := by simpa using h
end Go.Proofs.Ytglkbnckfkliaaa
