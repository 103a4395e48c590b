/- Several texts in one: PgA, LexM. -/
import Derived.Lib.ParseIntBCases
import Derived.Test.YtjomihlnjobndaaGreatDoorMg3
/- What a call owns, as assertions that can be joined: each says which blocks it speaks of, and stays as long as these stay. -/
namespace Go.Proofs.YtjomihlnjobndaaGreatDoor
open Go.RowKit Go.Maps
set_option linter.unusedVariables false
set_option linter.unusedSimpArgs false

structure As where
  c : Nat → Nat
  sat : World → Prop
  stay : ∀ w w', sat w → (∀ k, c k ≠ 0 → w'.heap[k]? = w.heap[k]?) → sat w'
  inH : ∀ w, sat w → ∀ k, c k ≠ 0 → k < w.heap.size
def As.emp : As := ⟨fun _ => 0, fun _ => True, fun _ _ h _ => h, fun _ _ _ h => absurd rfl h⟩
def As.and (a b : As) : As :=
  ⟨fun k => a.c k + b.c k, fun w => a.sat w ∧ b.sat w, fun w w' h hk => ⟨a.stay w w' h.1 (fun k x => hk k (by omega)), b.stay w w' h.2 (fun k x => hk k (by omega))⟩,
    fun w h k hk => by
      by_cases h0 : a.c k = 0
      · exact b.inH w h.2 k (by omega)
      · exact a.inH w h.1 k h0⟩
theorem As.and_c (a b : As) (k : Nat) : ((As.and a b)).c k = a.c k + b.c k := rfl
theorem As.and_at (a b : As) (w : World) : ((As.and a b)).sat w = (a.sat w ∧ b.sat w) := rfl
theorem As.emp_c (k : Nat) : As.emp.c k = 0 := rfl
theorem As.emp_at (w : World) : As.emp.sat w = True := rfl
/-- A plain fact. -/
def As.pure (p : Prop) : As := ⟨fun _ => 0, fun _ => p, fun _ _ h _ => h, fun _ _ _ h => absurd rfl h⟩
theorem As.pure_c (p : Prop) (k : Nat) : (As.pure p).c k = 0 := rfl
theorem As.pure_at (p : Prop) (w : World) : (As.pure p).sat w = p := rfl
/-- One for each. -/
def As.all {α : Type} (f : α → As) : List α → As
  | [] => .emp
  | x :: xs => (As.and (f x) (As.all f xs))
theorem As.all_nil {α : Type} (f : α → As) : As.all f [] = .emp := rfl
theorem As.all_cons {α : Type} (f : α → As) (x : α) (xs : List α) : As.all f (x :: xs) = ((As.and (f x) (As.all f xs))) := rfl
theorem As.all_c_app {α : Type} (f : α → As) (k : Nat) : ∀ xs ys : List α, (As.all f (xs ++ ys)).c k = (As.all f xs).c k + (As.all f ys).c k
  | [], ys => by simp [As.all_nil, As.emp_c]
  | x :: xs, ys => by rw [List.cons_append, As.all_cons, As.and_c, As.all_c_app f k xs ys, As.all_cons, As.and_c]; omega
theorem As.all_at_app {α : Type} (f : α → As) (w : World) : ∀ xs ys : List α, (As.all f (xs ++ ys)).sat w ↔ (As.all f xs).sat w ∧ (As.all f ys).sat w
  | [], ys => by simp [As.all_nil, As.emp_at]
  | x :: xs, ys => by rw [List.cons_append, As.all_cons, As.and_at, As.all_at_app f w xs ys, As.all_cons, As.and_at, and_assoc]
theorem As.all_mem {α : Type} (f : α → As) {w : World} : ∀ {xs : List α}, (As.all f xs).sat w → ∀ x ∈ xs, (f x).sat w
  | y :: xs, h, x, hx => by
    rcases List.mem_cons.1 hx with rfl | hx
    · exact h.1
    · exact As.all_mem f h.2 x hx
/-- One assertion follows from another one, and speaks of no more blocks. -/
def As.le (a b : As) : Prop := (∀ w, a.sat w → b.sat w) ∧ ∀ k, b.c k ≤ a.c k
theorem As.le.refl (a : As) : a.le a := ⟨fun _ h => h, fun _ => Nat.le_refl _⟩
theorem As.le.trans {a b c : As} (h : a.le b) (k : b.le c) : a.le c := ⟨fun w x => k.1 w (h.1 w x), fun j => Nat.le_trans (k.2 j) (h.2 j)⟩
theorem As.le.and {a b c d : As} (h : a.le b) (k : c.le d) : ((As.and a c)).le ((As.and b d)) := ⟨fun w x => ⟨h.1 w x.1, k.1 w x.2⟩, fun j => Nat.add_le_add (h.2 j) (k.2 j)⟩
theorem As.le.comm (a b : As) : ((As.and a b)).le ((As.and b a)) := ⟨fun w x => ⟨x.2, x.1⟩, fun j => Nat.le_of_eq (Nat.add_comm _ _)⟩

/-- What holds of a call's memory: all below B is as it was in W; X tells what is owned, each block once, none below B. -/
structure St (B : Nat) (W : World) (X : As) (w : World) : Prop where
  below : Below B W w
  le : B ≤ w.heap.size
  sat : X.sat w
  one : ∀ k, X.c k ≤ 1
  own : ∀ k, X.c k ≠ 0 → B ≤ k
section
variable {B : Nat} {W w w' : World} {X Y Z : As}
theorem St.imp (h : St B W X w) (k : X.le Y) : St B W Y w :=
  ⟨h.below, h.le, k.1 w h.sat, fun j => Nat.le_trans (k.2 j) (h.one j), fun j hj => h.own j (by have := k.2 j; omega)⟩
theorem St.inH (h : St B W X w) (k : Nat) (hk : X.c k ≠ 0) : k < w.heap.size := X.inH w h.sat k hk
/-- Nothing below the heap's end has changed. -/
theorem St.later (h : St B W X w) (hb : Below w.heap.size w w') : St B W X w' :=
  ⟨h.below.trans (hb.mono h.le), Nat.le_trans h.le hb.size, X.stay w w' h.sat (fun k hk => hb.block k (h.inH k hk)), h.one, h.own⟩
theorem St.drew (h : St B W X w) : St B W X w.drew := h.later (below_drew (Below.refl _ _))
theorem St.alloc (h : St B W X w) (o : Obj) : St B W X (w.alloc o) := h.later ((Below.refl _ _).alloc (Nat.le_refl _) o)
/-- What one part speaks of has changed, or is new; the rest not. -/
theorem St.change (h : St B W ((As.and X Z)) w) (hos : w'.os = w.os) (htp : w'.tape = w.tape) (hout : w'.output = w.output) (hsz : w.heap.size ≤ w'.heap.size)
    (hk : ∀ k, k < w.heap.size → X.c k = 0 → w'.heap[k]? = w.heap[k]?) (hY : Y.sat w') (hc : ∀ k, Y.c k ≤ X.c k ∨ (w.heap.size ≤ k ∧ Y.c k ≤ 1)) : St B W ((As.and Y Z)) w' := by
  have hz : ∀ k, Z.c k ≠ 0 → k < w.heap.size ∧ X.c k = 0 := fun k hk => ⟨h.inH k (by rw [As.and_c]; omega), by have := h.one k; rw [As.and_c] at this; omega⟩
  refine ⟨⟨hos.trans h.below.os, htp.trans h.below.tape, hout.trans h.below.output, Nat.le_trans h.below.size hsz, fun k hB => ?_⟩, Nat.le_trans h.le hsz, ⟨hY, Z.stay w w' h.sat.2 (fun k x => hk k (hz k x).1 (hz k x).2)⟩, fun k => ?_, fun k x => ?_⟩
  · refine (hk k (Nat.lt_of_lt_of_le hB h.le) ?_).trans (h.below.block k hB)
    by_cases hx : X.c k = 0
    · exact hx
    · have := h.own k (by rw [As.and_c]; omega); omega
  · rw [As.and_c]
    have h1 := h.one k
    rw [As.and_c] at h1
    rcases hc k with h2 | ⟨h2, h3⟩
    · omega
    · have : Z.c k = 0 := by
        by_cases h0 : Z.c k = 0
        · exact h0
        · have := (hz k h0).1; omega
      omega
  · rw [As.and_c] at x
    rcases hc k with h2 | ⟨h2, h3⟩
    · exact h.own k (by rw [As.and_c]; omega)
    · exact Nat.le_trans h.le h2
end

/-! Boxes. -/
def bx (g : Nat) (cs : List Value) : As :=
  ⟨fun k => if g = k then 1 else 0, Box g cs, fun w w' h hk => by
      have e := hk g (by simp)
      have hg : g < w'.heap.size := by
        have h1 : w.heap[g]? = some (w.heap[g]'h.1) := Array.getElem?_eq_getElem h.1
        rw [h1] at e
        exact (Array.getElem?_eq_some_iff.1 e).1
      exact ⟨hg, fun i => (World.frozen?_of_block (a := ⟨g, i, none⟩) e).trans (h.2.1 i), fun i u hu => (World.cell?_of_block (a := ⟨g, i, none⟩) e).trans (h.2.2 i u hu)⟩,
    fun w h k hk => by
      by_cases e : g = k
      · subst e; exact h.1
      · simp [e] at hk⟩
theorem bx_c (g : Nat) (cs : List Value) (k : Nat) : (bx g cs).c k = if g = k then 1 else 0 := rfl
theorem bx_at (g : Nat) (cs : List Value) (w : World) : (bx g cs).sat w = Box g cs w := rfl
section
variable {B : Nat} {W w w' : World} {X Y Z : As}
theorem St.push (h : St B W Z w) {g : Nat} (hg : g = w.heap.size) (cs : List Value) (t : TypeId) : St B W ((As.and (bx g cs) Z)) (w.alloc (.cells cs.toArray t)) := by
  have h0 : St B W ((As.and As.emp Z)) w := h.imp ⟨fun w x => ⟨trivial, x⟩, fun k => by rw [As.and_c, As.emp_c]; omega⟩
  refine h0.change rfl rfl rfl (by simp) (fun k hk _ => heap_alloc_old w _ hk) (Box.new w hg cs t) (fun k => ?_)
  rw [bx_c]
  by_cases e : g = k
  · exact .inr ⟨by omega, by rw [if_pos e]; exact Nat.le_refl _⟩
  · exact .inl (by rw [if_neg e]; exact Nat.zero_le _)
theorem St.box {g : Nat} {cs : List Value} (h : St B W ((As.and (bx g cs) Z)) w) : Box g cs w := h.sat.1
theorem St.set {g : Nat} {cs : List Value} (h : St B W ((As.and (bx g cs) Z)) w) (i : Nat) (v : Value) : St B W ((As.and (bx g (cs.set i v)) Z)) (w.setCell ⟨g, i, none⟩ v) :=
  h.change rfl rfl rfl (by simp [World.setCell]) (fun k hk h0 => Below.heap_setCell w ⟨g, i, none⟩ v k (fun e => by rw [bx_c, if_pos e.symm] at h0; cases h0)) (h.box.set i v) (fun k => .inl (Nat.le_refl _))
end

/-! Rows of one's own. -/
def cR (p : Option Addr) (k : Nat) : Nat := match p with | some a => if a.block = k then 1 else 0 | none => 0
theorem cR_le (p : Option Addr) (k : Nat) : cR p k ≤ 1 := by unfold cR; split <;> (try split) <;> omega
theorem cR_block {p : Option Addr} {k n c : Nat} (h : cR p k ≠ 0) : (Value.slice p n c).ownBlock = some k := by
  unfold cR at h
  split at h
  · split at h
    · rename_i a e; rw [← e]; rfl
    · exact absurd rfl h
  · exact absurd rfl h
def rowP {α : Type} (B : Nat) (ty : TypeId) (m : Nat) (cel : α → List Value) (p : Option Addr) (n c : Nat) (xs : List α) (w : World) : Prop := n = xs.length ∧ w.ownsRow B ty m (.slice p n c) n (xs.flatMap cel)
def rw' {α : Type} (B : Nat) (ty : TypeId) (m : Nat) (cel : α → List Value) (p : Option Addr) (n c : Nat) (xs : List α) : As :=
  ⟨cR p, rowP B ty m cel p n c xs, fun w w' h hk => by
      refine ⟨h.1, h.2.1, ?_⟩
      rcases h.2.2 with hn | ⟨g, cap, cur, hv, hB, hg, rest⟩
      · exact .inl hn
      · refine .inr ⟨g, cap, cur, hv, hB, (hk g ?_).trans hg, rest⟩
        injection hv with e1 e2 e3
        subst e1
        show (if g = g then 1 else 0) ≠ 0
        simp,
    fun w h k hk => (h.2.lt k (cR_block hk)).2⟩
section
variable {α : Type} {B0 : Nat} {ty : TypeId} {m : Nat} {cel : α → List Value} {p : Option Addr} {n c : Nat} {xs : List α}
theorem rw_c (k : Nat) : (rw' B0 ty m cel p n c xs).c k = cR p k := rfl
theorem rw_at (w : World) : (rw' B0 ty m cel p n c xs).sat w = rowP B0 ty m cel p n c xs w := rfl
theorem rw_nil (w : World) : (rw' B0 ty m cel none 0 0 ([] : List α)).sat w := ⟨rfl, World.ownsRow_nil _ _ _ _⟩
/-- A row that has grown. -/
theorem St.grown {B : Nat} {W w w' : World} {Z : As} (h : St B W ((As.and (rw' B ty m cel p n c xs) Z)) w) {ys : List α} {v' : Value} {k : Nat} (hk : k = xs.length + ys.length) (hr : w'.ownsRow B ty m v' k (xs.flatMap cel ++ ys.flatMap cel)) (hg : w.grownBy w' (Value.slice p n c).ownBlock)
    (hm : Moved w (.slice p n c) v') : ∃ p' c', v' = .slice p' k c' ∧ St B W ((As.and (rw' B ty m cel p' k c' (xs ++ ys)) Z)) w' := by
  obtain ⟨p', c', rfl⟩ := row_slice hr
  refine ⟨p', c', rfl, h.change hg.os hg.tape hg.output hg.size (fun j hj h0 => hg.block j hj (fun e => ?_)) ⟨by rw [List.length_append]; exact hk, by rw [List.flatMap_append]; exact hr⟩ (fun j => ?_)⟩
  · rw [rw_c] at h0
    cases p with
    | none => cases e
    | some a =>
      have e2 : j = a.block := by injection e
      unfold cR at h0
      simp [e2] at h0
  · rw [rw_c, rw_c]
    by_cases hj : cR p' j = 0
    · exact .inl (by omega)
    · have e1 := cR_block (n := k) (c := c') hj
      rcases hm with e | e
      · rw [e1] at e
        left
        cases p with
        | none => cases e
        | some a =>
          have e2 : j = a.block := by injection e
          have : cR (some a) j = 1 := by unfold cR; simp [e2]
          have := cR_le p' j
          omega
      · rw [e1] at e
        right
        have e2 : j = w.heap.size := by injection e
        exact ⟨by omega, cR_le p' j⟩
/-- An element of a row is stored anew. -/
theorem St.upd {B : Nat} {W w : World} {Z : As} {g : Nat} (h : St B W ((As.and (rw' B ty m cel (some ⟨g, 0, none⟩) n c xs) Z)) w) (hm : 0 < m) (hc : ∀ x, (cel x).length = m) (i : Nat) (hi : i < xs.length) (y : α) :
    St B W ((As.and (rw' B ty m cel (some ⟨g, 0, none⟩) n c (xs.set i y)) Z)) (w.setCells g (i * m) (cel y)) := by
  have hx := (Below.refl 0 w)
  refine h.change ?_ ?_ ?_ (Nat.le_of_eq (setCells_size g _ _ _).symm) (fun k hk h0 => setCells_heap g _ _ _ k (fun e => ?_)) ⟨by rw [List.length_set]; exact h.sat.1.1, ?_⟩ (fun k => .inl (Nat.le_refl _))
  · exact ((Past.setCells (Nat.zero_le g) (cel y) (i * m) (Past.refl (Nat.zero_le w.heap.size))).2).os
  · exact ((Past.setCells (Nat.zero_le g) (cel y) (i * m) (Past.refl (Nat.zero_le w.heap.size))).2).tape
  · exact ((Past.setCells (Nat.zero_le g) (cel y) (i * m) (Past.refl (Nat.zero_le w.heap.size))).2).output
  · rw [rw_c] at h0
    unfold cR at h0
    simp [e] at h0
  · have := setCells_own (cel y) (i * m) h.sat.1.2
    rwa [sets_flat cel m hm hc xs i hi y] at this
/-- An element of a row, one cell of it stored anew. -/
theorem St.upd1 {B : Nat} {W w : World} {Z : As} {g : Nat} (h : St B W ((As.and (rw' B ty m cel (some ⟨g, 0, none⟩) n c xs) Z)) w) (i r : Nat) (v : Value) (y : α) (hx : (xs.flatMap cel).set (i * m + r) v = (xs.set i y).flatMap cel) :
    St B W ((As.and (rw' B ty m cel (some ⟨g, 0, none⟩) n c (xs.set i y)) Z)) (w.setCell ⟨g, i * m + r, none⟩ v) := by
  refine h.change rfl rfl rfl (by simp [World.setCell]) (fun k hk h0 => Below.heap_setCell w _ _ _ (fun e => ?_)) ⟨by rw [List.length_set]; exact h.sat.1.1, ?_⟩ (fun k => .inl (Nat.le_refl _))
  · rw [rw_c] at h0
    unfold cR at h0
    simp [e] at h0
  · rw [← hx]
    exact (h.sat.1.2.stored (i * m + r) v).1
theorem flat_set1 {α : Type} (cel : α → List Value) (m : Nat) (hm : 0 < m) (hc : ∀ x, (cel x).length = m) : ∀ (xs : List α) (i r : Nat) (hi : i < xs.length) (hr : r < m) (v : Value) (y : α), cel y = (cel xs[i]).set r v → (xs.flatMap cel).set (i * m + r) v = (xs.set i y).flatMap cel
  | x :: xs, 0, r, _, hr, v, y, hy => by
    simp only [List.getElem_cons_zero] at hy
    rw [List.set_cons_zero, List.flatMap_cons, List.flatMap_cons, hy, Nat.zero_mul, Nat.zero_add, List.set_append_left _ _ (by rw [hc]; exact hr)]
  | x :: xs, i + 1, r, hi, hr, v, y, hy => by
    simp only [List.getElem_cons_succ] at hy
    have ih := flat_set1 cel m hm hc xs i r (by simpa using hi) hr v y hy
    rw [List.set_cons_succ, List.flatMap_cons, List.flatMap_cons, ← ih, List.set_append_right _ _ (by rw [hc, Nat.add_mul]; omega)]
    congr 2
    rw [hc, Nat.add_mul]; omega
/-- append of one element, within a walk. -/
theorem wpList_app {P : Program} {B : Nat} {W w : World} {Y : As} {ops : Array Oper} {rest : List Oper} {o : Oper} {a : Act} {Q : Exit → Act → World → Prop} (hgd : o.guard = none) (s x : Operand) (t : TypeId)
    (ho : o.op = .call { callee := .builtin .append, args := #[s, x], argTypes := #[t, t] })
    (i : TypeInfo) (z : Value) (bytes : Nat) (ht : P.underlying t = some (.slice ty)) (hi : P.info? ty = some i) (hz : i.zero = some z) (hsize : i.size = m) (hby : i.bytes = bytes) (hzs : z.cells.size = m) (hm : 0 < m)
    (hs : a.eval s = .slice p n c) (h : St B W ((As.and (rw' B ty m cel p n c xs) Y)) w) (y : α) (q : Addr) (cx : Nat) (hx : a.eval x = .slice (some q) 1 cx) (hc : (cel y).length = m) (hq : ∀ j u, (cel y)[j]? = some u → w.cell? (q.add j) = some u) (h1 : ∀ u ∈ cel y, u.oneCell' = true)
    (h63 : xs.length + 1 ≤ maxLen) (hbytes : (xs.length + 1) * bytes ≤ 140737488355328)
    (k : ∀ p' c' w', St B W ((As.and (rw' B ty m cel p' (xs.length + 1) c' (xs ++ [y])) Y)) w' → wpList P ops Q rest (a.put o.dst (.slice p' (xs.length + 1) c')) w') : wpList P ops Q (o :: rest) a w := by
  have hn : n = xs.length := h.sat.1.1
  subst hn
  refine wpList_append_at hgd s x t ho B ty i z m bytes ht hi hz hsize hby hzs hm (.slice p xs.length c) xs.length (xs.flatMap cel) hs h.sat.1.2 (some q) 1 cx (cel y) hx (by rw [hc, Nat.one_mul]) (fun j u hj => ⟨q, rfl, hq j u hj⟩) h1 h63 hbytes h.le (fun v' w' h2 h3 h4 => ?_)
  obtain ⟨p', c', rfl, hS⟩ := h.grown (ys := [y]) (k := xs.length + 1) rfl (by simpa using h2) h3 h4
  exact k p' c' w' hS
end
end Go.Proofs.YtjomihlnjobndaaGreatDoor
/- Package lex over plain lists of bytes: the sorts of bytes, the first piece of a text, the pieces of a text as a relation; what follows of them. No program in it. -/
namespace Go.Proofs.YtjomihlnjobndaaGreatDoor
set_option linter.unusedVariables false
set_option linter.unusedSimpArgs false

def isBlank (c : UInt8) : Bool := c.toNat == 32 || c.toNat == 9 || c.toNat == 13
def isOfLine (c : UInt8) : Bool := c.toNat != 10
def isMark (c : UInt8) : Bool := c.toNat == 61 || c.toNat == 44 || c.toNat == 40 || c.toNat == 41 || c.toNat == 58
def isLetter (c : UInt8) : Bool := (decide (97 ≤ c.toNat) && decide (c.toNat ≤ 122)) || c.toNat == 95
def isDigit (c : UInt8) : Bool := decide (48 ≤ c.toNat) && decide (c.toNat ≤ 57)
def isOfWord (c : UInt8) : Bool := isLetter c || isDigit c

/-- How many at the front are of one sort. -/
def runOf (p : UInt8 → Bool) (l : List UInt8) : Nat := (l.takeWhile p).length
theorem runOf_nil (p : UInt8 → Bool) : runOf p [] = 0 := rfl
theorem runOf_cons (p : UInt8 → Bool) (c : UInt8) (r : List UInt8) : runOf p (c :: r) = if p c then runOf p r + 1 else 0 := by
  unfold runOf
  rw [List.takeWhile_cons]
  split <;> rfl
theorem runOf_le (p : UInt8 → Bool) (l : List UInt8) : runOf p l ≤ l.length := by
  induction l with
  | nil => exact Nat.le_refl _
  | cons c r ih => rw [runOf_cons]; split <;> simp <;> omega
theorem take_runOf (p : UInt8 → Bool) (l : List UInt8) : l.take (runOf p l) = l.takeWhile p := by
  induction l with
  | nil => rfl
  | cons c r ih =>
    rw [runOf_cons, List.takeWhile_cons]
    split
    · rw [List.take_succ_cons, ih]
    · rfl
/-- All of them are of the sort; the next one isn't. -/
theorem runOf_at (p : UInt8 → Bool) (l : List UInt8) (i : Nat) (h : i < runOf p l) : ∃ h' : i < l.length, p l[i] = true := by
  induction l generalizing i with
  | nil => simp [runOf_nil] at h
  | cons c r ih =>
    rw [runOf_cons] at h
    split at h
    · rename_i hc
      cases i with
      | zero => exact ⟨by simp, hc⟩
      | succ i =>
        obtain ⟨h', k⟩ := ih i (by omega)
        exact ⟨by simp; omega, by simpa using k⟩
    · omega
theorem runOf_end (p : UInt8 → Bool) (l : List UInt8) (h : runOf p l < l.length) : p l[runOf p l] = false := by
  induction l with
  | nil => simp at h
  | cons c r ih =>
    by_cases hc : p c = true
    · have e : runOf p (c :: r) = runOf p r + 1 := by rw [runOf_cons, if_pos hc]
      have h2 : runOf p r < r.length := by rw [e] at h; simpa using h
      have := ih h2
      simp only [e, List.getElem_cons_succ]
      exact this
    · have e : runOf p (c :: r) = 0 := by rw [runOf_cons, if_neg hc]
      simp only [e, List.getElem_cons_zero]
      simpa using hc
/-- Where counting may stop: n bytes of the sort, and then none. -/
theorem runOf_eq (p : UInt8 → Bool) (l : List UInt8) (n : Nat) (hn : n ≤ l.length) (ha : ∀ i (h : i < n), p (l[i]'(by omega)) = true) (he : ∀ h : n < l.length, p l[n] = false) : runOf p l = n := by
  induction l generalizing n with
  | nil => simp at hn; subst hn; rfl
  | cons c r ih =>
    rw [runOf_cons]
    cases n with
    | zero =>
      have := he (by simp)
      simp at this
      rw [if_neg (by simp [this])]
    | succ n =>
      have h0 := ha 0 (by omega)
      simp at h0
      rw [if_pos h0]
      congr 1
      refine ih n (by simpa using hn) (fun i h => ?_) (fun h => ?_)
      · simpa using ha (i + 1) (by omega)
      · have k := he (by simpa using h)
        rw [List.getElem_cons_succ] at k
        exact k
/-- A byte that is not of the sort stops the counting, whatever follows it. -/
theorem runOf_stop (p : UInt8 → Bool) (l : List UInt8) (c : UInt8) (t : List UInt8) (hc : p c = false) : runOf p (l ++ c :: t) = runOf p l := by
  induction l with
  | nil => simp [runOf_cons, hc, runOf_nil]
  | cons d r ih => rw [List.cons_append, runOf_cons, runOf_cons, ih]
theorem takeWhile_stop (p : UInt8 → Bool) (l : List UInt8) (c : UInt8) (t : List UInt8) (hc : p c = false) : (l ++ c :: t).takeWhile p = l.takeWhile p := by
  induction l with
  | nil => simp [hc]
  | cons d r ih => rw [List.cons_append, List.takeWhile_cons, List.takeWhile_cons, ih]

def wordSize (l : List UInt8) : Nat := match l with
  | [] => 0
  | c :: r => if isLetter c then runOf isOfWord (c :: r) else 0
theorem wordSize_le (l : List UInt8) : wordSize l ≤ l.length := by
  cases l with
  | nil => exact Nat.le_refl _
  | cons c r => simp only [wordSize]; split; exact runOf_le _ _; omega
theorem wordSize_pos (c : UInt8) (r : List UInt8) (h : isLetter c = true) : 0 < wordSize (c :: r) := by
  simp only [wordSize, if_pos h]
  rw [runOf_cons, if_pos (by simp [isOfWord, h])]
  omega
/-- The bytes ahead of the next piece. -/
def passed (l : List UInt8) : Nat := match l.drop (runOf isBlank l) with
  | [] => runOf isBlank l
  | c :: r => if c.toNat = 35 then runOf isBlank l + runOf isOfLine (c :: r) else runOf isBlank l
theorem passed_le (l : List UInt8) : passed l ≤ l.length := by
  have h := runOf_le isBlank l
  unfold passed
  split
  · exact h
  · rename_i c r e
    split
    · have h2 := runOf_le isOfLine (c :: r)
      have h3 : (c :: r).length = l.length - runOf isBlank l := by rw [← e, List.length_drop]
      omega
    · exact h

/-- The first piece: its kind, its text, how many bytes it takes; or the error's number. -/
inductive Cut where
  | ok (kind : Nat) (body : List UInt8) (size : Nat)
  | bad (code : Nat)
def number (kind : Nat) (l : List UInt8) (most extra : Nat) : Cut :=
  if 1 < runOf isDigit l ∧ (l.head?.map UInt8.toNat) = some 48 then .bad 2
  else match Go.Lib.parseUintB 64 (l.takeWhile isDigit) with
    | .ok u => if most < u then .bad 2 else .ok kind (l.takeWhile isDigit) (extra + runOf isDigit l)
    | _ => .bad 2
def first (l : List UInt8) : Cut := match l with
  | [] => .bad 1
  | c :: r =>
    if c.toNat = 10 then .ok 6 [] 1
    else if isMark c then .ok 5 [c] 1
    else if isLetter c then .ok 1 ((c :: r).take (wordSize (c :: r))) (wordSize (c :: r))
    else if isDigit c then number 2 (c :: r) 18446744073709551615 0
    else if c.toNat = 37 then number 3 r 4095 1
    else if c.toNat = 64 ∧ 0 < wordSize r then .ok 4 (r.take (wordSize r)) (1 + wordSize r)
    else .bad 1

structure Tok where
  kind : Nat
  body : List UInt8
  line : Nat
  col : Nat
structure Flt where
  code : Nat
  line : Nat
  col : Nat
/-- The pieces of a text that begins at a line and a column, or its first fault. -/
inductive Lexed : List UInt8 → Nat → Nat → List Tok → Option Flt → Prop
  | done {l line col} : l.drop (passed l) = [] → Lexed l line col [] none
  | bad {l line col c r e} : l.drop (passed l) = c :: r → first (c :: r) = .bad e → Lexed l line col [] (some ⟨e, line, col + passed l⟩)
  | step {l line col c r k b s ts f} : l.drop (passed l) = c :: r → first (c :: r) = .ok k b s →
      Lexed ((c :: r).drop s) (if k = 6 then line + 1 else line) (if k = 6 then 1 else col + passed l + s) ts f → Lexed l line col (⟨k, b, line, col + passed l⟩ :: ts) f

theorem Lexed.unique {l line col ts f} (h : Lexed l line col ts f) : ∀ {ts' f'}, Lexed l line col ts' f' → ts = ts' ∧ f = f' := by
  induction h with
  | done h0 =>
    intro ts' f' h'
    cases h' with
    | done => exact ⟨rfl, rfl⟩
    | bad h1 => rw [h0] at h1; cases h1
    | step h1 => rw [h0] at h1; cases h1
  | bad h0 h1 =>
    intro ts' f' h'
    cases h' with
    | done h2 => rw [h0] at h2; cases h2
    | bad h2 h3 =>
      rw [h0] at h2; injection h2 with a b; subst a b
      rw [h1] at h3; injection h3 with a; subst a
      exact ⟨rfl, rfl⟩
    | step h2 h3 =>
      rw [h0] at h2; injection h2 with a b; subst a b
      rw [h1] at h3; cases h3
  | step h0 h1 _ ih =>
    intro ts' f' h'
    cases h' with
    | done h2 => rw [h0] at h2; cases h2
    | bad h2 h3 =>
      rw [h0] at h2; injection h2 with a b; subst a b
      rw [h1] at h3; cases h3
    | step h2 h3 h4 =>
      rw [h0] at h2; injection h2 with a b; subst a b
      rw [h1] at h3; injection h3 with a b c; subst a b c
      obtain ⟨rfl, rfl⟩ := ih h4
      exact ⟨rfl, rfl⟩

theorem number_size {kind l most extra k b s} (h : number kind l most extra = .ok k b s) : k = kind ∧ b = l.takeWhile isDigit ∧ s = extra + runOf isDigit l ∧ 0 < runOf isDigit l := by
  unfold number at h
  split at h
  · cases h
  · split at h
    · rename_i hp
      split at h
      · cases h
      · injection h with h1 h2 h3
        refine ⟨h1.symm, h2.symm, h3.symm, ?_⟩
        rcases Nat.eq_zero_or_pos (runOf isDigit l) with h0 | h0
        · have e : l.takeWhile isDigit = [] := List.length_eq_zero_iff.1 h0
          rw [e] at hp
          simp [Go.Lib.parseUintB] at hp
        · exact h0
    · cases h
theorem first_size {l k b s} (h : first l = .ok k b s) : 0 < s ∧ s ≤ l.length ∧ b.length ≤ s := by
  unfold first at h
  split at h
  · cases h
  · rename_i c r
    split at h
    · injection h with h1 h2 h3; subst h1 h2 h3; simp
    split at h
    · injection h with h1 h2 h3; subst h1 h2 h3; simp
    split at h
    · rename_i hl
      injection h with h1 h2 h3; subst h1 h2 h3
      exact ⟨wordSize_pos c r hl, wordSize_le _, by rw [List.length_take]; exact Nat.min_le_left _ _⟩
    split at h
    · obtain ⟨rfl, rfl, rfl, hp⟩ := number_size h
      have := runOf_le isDigit (c :: r)
      exact ⟨by omega, by omega, by unfold runOf; omega⟩
    split at h
    · obtain ⟨rfl, rfl, rfl, hp⟩ := number_size h
      have := runOf_le isDigit r
      refine ⟨by omega, by simp; omega, by unfold runOf; omega⟩
    split at h
    · rename_i hw
      injection h with h1 h2 h3; subst h1 h2 h3
      have := wordSize_le r
      exact ⟨by omega, by simp; omega, by rw [List.length_take]; omega⟩
    · cases h
/-- The codes of faults: 1 and 2 alone. -/
theorem first_bad {l e} (h : first l = .bad e) : e = 1 ∨ e = 2 := by
  have hn : ∀ {k l m x e}, number k l m x = .bad e → e = 2 := by
    intro k l m x e h
    unfold number at h
    split at h
    · injection h with h; exact h.symm
    · split at h
      · split at h
        · injection h with h; exact h.symm
        · cases h
      · injection h with h; exact h.symm
  unfold first at h
  split at h
  · injection h with h; exact .inl h.symm
  · split at h
    · cases h
    split at h
    · cases h
    split at h
    · cases h
    split at h
    · exact .inr (hn h)
    split at h
    · exact .inr (hn h)
    split at h
    · cases h
    · injection h with h; exact .inl h.symm
/-- There always is an answer. -/
theorem lexed_total : ∀ (n : Nat) (l : List UInt8) (line col : Nat), l.length ≤ n → ∃ ts f, Lexed l line col ts f
  | 0, l, line, col, h => by
    have : l = [] := List.length_eq_zero_iff.1 (by omega)
    subst this
    exact ⟨[], none, .done (by simp)⟩
  | n + 1, l, line, col, h => by
    cases hd : l.drop (passed l) with
    | nil => exact ⟨[], none, .done hd⟩
    | cons c r =>
      cases hf : first (c :: r) with
      | bad e => exact ⟨_, _, .bad hd hf⟩
      | ok k b s =>
        have h1 := first_size hf
        have h2 : (c :: r).length ≤ l.length := by rw [← hd, List.length_drop]; omega
        obtain ⟨ts, f, h3⟩ := lexed_total n ((c :: r).drop s) (if k = 6 then line + 1 else line) (if k = 6 then 1 else col + passed l + s) (by rw [List.length_drop]; omega)
        exact ⟨_, _, .step hd hf h3⟩
end Go.Proofs.YtjomihlnjobndaaGreatDoor
