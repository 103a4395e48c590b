/- What a call owns, as assertions that can be joined: each says which blocks it speaks of, and stays as long as these stay. -/
import Derived.Test.YtpjfkmaceaikbaaBaseD
namespace Go.Proofs.Ytpjfkmaceaikbaa
open Go.RowKit Go.Maps
set_option linter.unusedVariables false
set_option linter.unusedSimpArgs false

structure As where
  c : Nat → Nat
  sat : World → Prop
  stay : ∀ w w', sat w → (∀ k, c k ≠ 0 → w'.heap[k]? = w.heap[k]?) → sat w'
  inH : ∀ w, sat w → ∀ k, c k ≠ 0 → k < w.heap.size
def As.emp : As := ⟨fun _ => 0, fun _ => True, fun _ _ h _ => h, fun _ _ _ h => absurd rfl h⟩
def As.and (a b : As) : As :=
  ⟨fun k => a.c k + b.c k, fun w => a.sat w ∧ b.sat w, fun w w' h hk => ⟨a.stay w w' h.1 (fun k x => hk k (by omega)), b.stay w w' h.2 (fun k x => hk k (by omega))⟩,
    fun w h k hk => by
      by_cases h0 : a.c k = 0
      · exact b.inH w h.2 k (by omega)
      · exact a.inH w h.1 k h0⟩
theorem As.and_c (a b : As) (k : Nat) : ((As.and a b)).c k = a.c k + b.c k := rfl
theorem As.and_at (a b : As) (w : World) : ((As.and a b)).sat w = (a.sat w ∧ b.sat w) := rfl
theorem As.emp_c (k : Nat) : As.emp.c k = 0 := rfl
theorem As.emp_at (w : World) : As.emp.sat w = True := rfl
/-- A plain fact. -/
def As.pure (p : Prop) : As := ⟨fun _ => 0, fun _ => p, fun _ _ h _ => h, fun _ _ _ h => absurd rfl h⟩
theorem As.pure_c (p : Prop) (k : Nat) : (As.pure p).c k = 0 := rfl
theorem As.pure_at (p : Prop) (w : World) : (As.pure p).sat w = p := rfl
/-- One for each. -/
def As.all {α : Type} (f : α → As) : List α → As
  | [] => .emp
  | x :: xs => (As.and (f x) (As.all f xs))
theorem As.all_nil {α : Type} (f : α → As) : As.all f [] = .emp := rfl
theorem As.all_cons {α : Type} (f : α → As) (x : α) (xs : List α) : As.all f (x :: xs) = ((As.and (f x) (As.all f xs))) := rfl
theorem As.all_c_app {α : Type} (f : α → As) (k : Nat) : ∀ xs ys : List α, (As.all f (xs ++ ys)).c k = (As.all f xs).c k + (As.all f ys).c k
  | [], ys => by simp [As.all_nil, As.emp_c]
  | x :: xs, ys => by rw [List.cons_append, As.all_cons, As.and_c, As.all_c_app f k xs ys, As.all_cons, As.and_c]; omega
theorem As.all_at_app {α : Type} (f : α → As) (w : World) : ∀ xs ys : List α, (As.all f (xs ++ ys)).sat w ↔ (As.all f xs).sat w ∧ (As.all f ys).sat w
  | [], ys => by simp [As.all_nil, As.emp_at]
  | x :: xs, ys => by rw [List.cons_append, As.all_cons, As.and_at, As.all_at_app f w xs ys, As.all_cons, As.and_at, and_assoc]
theorem As.all_mem {α : Type} (f : α → As) {w : World} : ∀ {xs : List α}, (As.all f xs).sat w → ∀ x ∈ xs, (f x).sat w
  | y :: xs, h, x, hx => by
    rcases List.mem_cons.1 hx with rfl | hx
    · exact h.1
    · exact As.all_mem f h.2 x hx
/-- One assertion follows from another one, and speaks of no more blocks. -/
def As.le (a b : As) : Prop := (∀ w, a.sat w → b.sat w) ∧ ∀ k, b.c k ≤ a.c k
theorem As.le.refl (a : As) : a.le a := ⟨fun _ h => h, fun _ => Nat.le_refl _⟩
theorem As.le.trans {a b c : As} (h : a.le b) (k : b.le c) : a.le c := ⟨fun w x => k.1 w (h.1 w x), fun j => Nat.le_trans (k.2 j) (h.2 j)⟩
theorem As.le.and {a b c d : As} (h : a.le b) (k : c.le d) : ((As.and a c)).le ((As.and b d)) := ⟨fun w x => ⟨h.1 w x.1, k.1 w x.2⟩, fun j => Nat.add_le_add (h.2 j) (k.2 j)⟩
theorem As.le.comm (a b : As) : ((As.and a b)).le ((As.and b a)) := ⟨fun w x => ⟨x.2, x.1⟩, fun j => Nat.le_of_eq (Nat.add_comm _ _)⟩

/-- What holds of a call's memory: all below B is as it was in W; X tells what is owned, each block once, none below B. -/
structure St (B : Nat) (W : World) (X : As) (w : World) : Prop where
  below : Below B W w
  le : B ≤ w.heap.size
  sat : X.sat w
  one : ∀ k, X.c k ≤ 1
  own : ∀ k, X.c k ≠ 0 → B ≤ k
section
variable {B : Nat} {W w w' : World} {X Y Z : As}
theorem St.imp (h : St B W X w) (k : X.le Y) : St B W Y w :=
  ⟨h.below, h.le, k.1 w h.sat, fun j => Nat.le_trans (k.2 j) (h.one j), fun j hj => h.own j (by have := k.2 j; omega)⟩
theorem St.inH (h : St B W X w) (k : Nat) (hk : X.c k ≠ 0) : k < w.heap.size := X.inH w h.sat k hk
/-- Nothing below the heap's end has changed. -/
theorem St.later (h : St B W X w) (hb : Below w.heap.size w w') : St B W X w' :=
  ⟨h.below.trans (hb.mono h.le), Nat.le_trans h.le hb.size, X.stay w w' h.sat (fun k hk => hb.block k (h.inH k hk)), h.one, h.own⟩
theorem St.drew (h : St B W X w) : St B W X w.drew := h.later (below_drew (Below.refl _ _))
theorem St.alloc (h : St B W X w) (o : Obj) : St B W X (w.alloc o) := h.later ((Below.refl _ _).alloc (Nat.le_refl _) o)
/-- What one part speaks of has changed, or is new; the rest not. -/
theorem St.change (h : St B W ((As.and X Z)) w) (hos : w'.os = w.os) (htp : w'.tape = w.tape) (hout : w'.output = w.output) (hsz : w.heap.size ≤ w'.heap.size)
    (hk : ∀ k, k < w.heap.size → X.c k = 0 → w'.heap[k]? = w.heap[k]?) (hY : Y.sat w') (hc : ∀ k, Y.c k ≤ X.c k ∨ (w.heap.size ≤ k ∧ Y.c k ≤ 1)) : St B W ((As.and Y Z)) w' := by
  have hz : ∀ k, Z.c k ≠ 0 → k < w.heap.size ∧ X.c k = 0 := fun k hk => ⟨h.inH k (by rw [As.and_c]; omega), by have := h.one k; rw [As.and_c] at this; omega⟩
  refine ⟨⟨hos.trans h.below.os, htp.trans h.below.tape, hout.trans h.below.output, Nat.le_trans h.below.size hsz, fun k hB => ?_⟩, Nat.le_trans h.le hsz, ⟨hY, Z.stay w w' h.sat.2 (fun k x => hk k (hz k x).1 (hz k x).2)⟩, fun k => ?_, fun k x => ?_⟩
  · refine (hk k (Nat.lt_of_lt_of_le hB h.le) ?_).trans (h.below.block k hB)
    by_cases hx : X.c k = 0
    · exact hx
    · have := h.own k (by rw [As.and_c]; omega); omega
  · rw [As.and_c]
    have h1 := h.one k
    rw [As.and_c] at h1
    rcases hc k with h2 | ⟨h2, h3⟩
    · omega
    · have : Z.c k = 0 := by
        by_cases h0 : Z.c k = 0
        · exact h0
        · have := (hz k h0).1; omega
      omega
  · rw [As.and_c] at x
    rcases hc k with h2 | ⟨h2, h3⟩
    · exact h.own k (by rw [As.and_c]; omega)
    · exact Nat.le_trans h.le h2
end

/-! Boxes. -/
def bx (g : Nat) (cs : List Value) : As :=
  ⟨fun k => if g = k then 1 else 0, Box g cs, fun w w' h hk => by
      have e := hk g (by simp)
      have hg : g < w'.heap.size := by
        have h1 : w.heap[g]? = some (w.heap[g]'h.1) := Array.getElem?_eq_getElem h.1
        rw [h1] at e
        exact (Array.getElem?_eq_some_iff.1 e).1
      exact ⟨hg, fun i => (World.frozen?_of_block (a := ⟨g, i, none⟩) e).trans (h.2.1 i), fun i u hu => (World.cell?_of_block (a := ⟨g, i, none⟩) e).trans (h.2.2 i u hu)⟩,
    fun w h k hk => by
      by_cases e : g = k
      · subst e; exact h.1
      · simp [e] at hk⟩
theorem bx_c (g : Nat) (cs : List Value) (k : Nat) : (bx g cs).c k = if g = k then 1 else 0 := rfl
theorem bx_at (g : Nat) (cs : List Value) (w : World) : (bx g cs).sat w = Box g cs w := rfl
section
variable {B : Nat} {W w w' : World} {X Y Z : As}
theorem St.push (h : St B W Z w) {g : Nat} (hg : g = w.heap.size) (cs : List Value) (t : TypeId) : St B W ((As.and (bx g cs) Z)) (w.alloc (.cells cs.toArray t)) := by
  have h0 : St B W ((As.and As.emp Z)) w := h.imp ⟨fun w x => ⟨trivial, x⟩, fun k => by rw [As.and_c, As.emp_c]; omega⟩
  refine h0.change rfl rfl rfl (by simp) (fun k hk _ => heap_alloc_old w _ hk) (Box.new w hg cs t) (fun k => ?_)
  rw [bx_c]
  by_cases e : g = k
  · exact .inr ⟨by omega, by rw [if_pos e]; exact Nat.le_refl _⟩
  · exact .inl (by rw [if_neg e]; exact Nat.zero_le _)
theorem St.box {g : Nat} {cs : List Value} (h : St B W ((As.and (bx g cs) Z)) w) : Box g cs w := h.sat.1
theorem St.set {g : Nat} {cs : List Value} (h : St B W ((As.and (bx g cs) Z)) w) (i : Nat) (v : Value) : St B W ((As.and (bx g (cs.set i v)) Z)) (w.setCell ⟨g, i, none⟩ v) :=
  h.change rfl rfl rfl (by simp [World.setCell]) (fun k hk h0 => Below.heap_setCell w ⟨g, i, none⟩ v k (fun e => by rw [bx_c, if_pos e.symm] at h0; cases h0)) (h.box.set i v) (fun k => .inl (Nat.le_refl _))
end

/-! Rows of one's own. -/
def cR (p : Option Addr) (k : Nat) : Nat := match p with | some a => if a.block = k then 1 else 0 | none => 0
theorem cR_le (p : Option Addr) (k : Nat) : cR p k ≤ 1 := by unfold cR; split <;> (try split) <;> omega
theorem cR_block {p : Option Addr} {k n c : Nat} (h : cR p k ≠ 0) : (Value.slice p n c).ownBlock = some k := by
  unfold cR at h
  split at h
  · split at h
    · rename_i a e; rw [← e]; rfl
    · exact absurd rfl h
  · exact absurd rfl h
def rowP {α : Type} (B : Nat) (ty : TypeId) (m : Nat) (cel : α → List Value) (p : Option Addr) (n c : Nat) (xs : List α) (w : World) : Prop := n = xs.length ∧ w.ownsRow B ty m (.slice p n c) n (xs.flatMap cel)
def rw' {α : Type} (B : Nat) (ty : TypeId) (m : Nat) (cel : α → List Value) (p : Option Addr) (n c : Nat) (xs : List α) : As :=
  ⟨cR p, rowP B ty m cel p n c xs, fun w w' h hk => by
      refine ⟨h.1, h.2.1, ?_⟩
      rcases h.2.2 with hn | ⟨g, cap, cur, hv, hB, hg, rest⟩
      · exact .inl hn
      · refine .inr ⟨g, cap, cur, hv, hB, (hk g ?_).trans hg, rest⟩
        injection hv with e1 e2 e3
        subst e1
        show (if g = g then 1 else 0) ≠ 0
        simp,
    fun w h k hk => (h.2.lt k (cR_block hk)).2⟩
section
variable {α : Type} {B0 : Nat} {ty : TypeId} {m : Nat} {cel : α → List Value} {p : Option Addr} {n c : Nat} {xs : List α}
theorem rw_c (k : Nat) : (rw' B0 ty m cel p n c xs).c k = cR p k := rfl
theorem rw_at (w : World) : (rw' B0 ty m cel p n c xs).sat w = rowP B0 ty m cel p n c xs w := rfl
theorem rw_nil (w : World) : (rw' B0 ty m cel none 0 0 ([] : List α)).sat w := ⟨rfl, World.ownsRow_nil _ _ _ _⟩
/-- A row that has grown. -/
theorem St.grown {B : Nat} {W w w' : World} {Z : As} (h : St B W ((As.and (rw' B ty m cel p n c xs) Z)) w) {ys : List α} {v' : Value} {k : Nat} (hk : k = xs.length + ys.length) (hr : w'.ownsRow B ty m v' k (xs.flatMap cel ++ ys.flatMap cel)) (hg : w.grownBy w' (Value.slice p n c).ownBlock)
    (hm : Moved w (.slice p n c) v') : ∃ p' c', v' = .slice p' k c' ∧ St B W ((As.and (rw' B ty m cel p' k c' (xs ++ ys)) Z)) w' := by
  obtain ⟨p', c', rfl⟩ := row_slice hr
  refine ⟨p', c', rfl, h.change hg.os hg.tape hg.output hg.size (fun j hj h0 => hg.block j hj (fun e => ?_)) ⟨by rw [List.length_append]; exact hk, by rw [List.flatMap_append]; exact hr⟩ (fun j => ?_)⟩
  · rw [rw_c] at h0
    cases p with
    | none => cases e
    | some a =>
      have e2 : j = a.block := by injection e
      unfold cR at h0
      simp [e2] at h0
  · rw [rw_c, rw_c]
    by_cases hj : cR p' j = 0
    · exact .inl (by omega)
    · have e1 := cR_block (n := k) (c := c') hj
      rcases hm with e | e
      · rw [e1] at e
        left
        cases p with
        | none => cases e
        | some a =>
          have e2 : j = a.block := by injection e
          have : cR (some a) j = 1 := by unfold cR; simp [e2]
          have := cR_le p' j
          omega
      · rw [e1] at e
        right
        have e2 : j = w.heap.size := by injection e
        exact ⟨by omega, cR_le p' j⟩
/-- An element of a row is stored anew. -/
theorem St.upd {B : Nat} {W w : World} {Z : As} {g : Nat} (h : St B W ((As.and (rw' B ty m cel (some ⟨g, 0, none⟩) n c xs) Z)) w) (hm : 0 < m) (hc : ∀ x, (cel x).length = m) (i : Nat) (hi : i < xs.length) (y : α) :
    St B W ((As.and (rw' B ty m cel (some ⟨g, 0, none⟩) n c (xs.set i y)) Z)) (w.setCells g (i * m) (cel y)) := by
  have hx := (Below.refl 0 w)
  refine h.change ?_ ?_ ?_ (Nat.le_of_eq (setCells_size g _ _ _).symm) (fun k hk h0 => setCells_heap g _ _ _ k (fun e => ?_)) ⟨by rw [List.length_set]; exact h.sat.1.1, ?_⟩ (fun k => .inl (Nat.le_refl _))
  · exact ((Past.setCells (Nat.zero_le g) (cel y) (i * m) (Past.refl (Nat.zero_le w.heap.size))).2).os
  · exact ((Past.setCells (Nat.zero_le g) (cel y) (i * m) (Past.refl (Nat.zero_le w.heap.size))).2).tape
  · exact ((Past.setCells (Nat.zero_le g) (cel y) (i * m) (Past.refl (Nat.zero_le w.heap.size))).2).output
  · rw [rw_c] at h0
    unfold cR at h0
    simp [e] at h0
  · have := setCells_own (cel y) (i * m) h.sat.1.2
    rwa [sets_flat cel m hm hc xs i hi y] at this
/-- An element of a row, one cell of it stored anew. -/
theorem St.upd1 {B : Nat} {W w : World} {Z : As} {g : Nat} (h : St B W ((As.and (rw' B ty m cel (some ⟨g, 0, none⟩) n c xs) Z)) w) (i r : Nat) (v : Value) (y : α) (hx : (xs.flatMap cel).set (i * m + r) v = (xs.set i y).flatMap cel) :
    St B W ((As.and (rw' B ty m cel (some ⟨g, 0, none⟩) n c (xs.set i y)) Z)) (w.setCell ⟨g, i * m + r, none⟩ v) := by
  refine h.change rfl rfl rfl (by simp [World.setCell]) (fun k hk h0 => Below.heap_setCell w _ _ _ (fun e => ?_)) ⟨by rw [List.length_set]; exact h.sat.1.1, ?_⟩ (fun k => .inl (Nat.le_refl _))
  · rw [rw_c] at h0
    unfold cR at h0
    simp [e] at h0
  · rw [← hx]
    exact (h.sat.1.2.stored (i * m + r) v).1
theorem flat_set1 {α : Type} (cel : α → List Value) (m : Nat) (hm : 0 < m) (hc : ∀ x, (cel x).length = m) : ∀ (xs : List α) (i r : Nat) (hi : i < xs.length) (hr : r < m) (v : Value) (y : α), cel y = (cel xs[i]).set r v → (xs.flatMap cel).set (i * m + r) v = (xs.set i y).flatMap cel
  | x :: xs, 0, r, _, hr, v, y, hy => by
    simp only [List.getElem_cons_zero] at hy
    rw [List.set_cons_zero, List.flatMap_cons, List.flatMap_cons, hy, Nat.zero_mul, Nat.zero_add, List.set_append_left _ _ (by rw [hc]; exact hr)]
  | x :: xs, i + 1, r, hi, hr, v, y, hy => by
    simp only [List.getElem_cons_succ] at hy
    have ih := flat_set1 cel m hm hc xs i r (by simpa using hi) hr v y hy
    rw [List.set_cons_succ, List.flatMap_cons, List.flatMap_cons, ← ih, List.set_append_right _ _ (by rw [hc, Nat.add_mul]; omega)]
    congr 2
    rw [hc, Nat.add_mul]; omega
/-- append of one element, within a walk. -/
theorem wpList_app {P : Program} {B : Nat} {W w : World} {Y : As} {ops : Array Oper} {rest : List Oper} {o : Oper} {a : Act} {Q : Exit → Act → World → Prop} (hgd : o.guard = none) (s x : Operand) (t : TypeId)
    (ho : o.op = .call { callee := .builtin .append, args := #[s, x], argTypes := #[t, t] })
    (i : TypeInfo) (z : Value) (bytes : Nat) (ht : P.underlying t = some (.slice ty)) (hi : P.info? ty = some i) (hz : i.zero = some z) (hsize : i.size = m) (hby : i.bytes = bytes) (hzs : z.cells.size = m) (hm : 0 < m)
    (hs : a.eval s = .slice p n c) (h : St B W ((As.and (rw' B ty m cel p n c xs) Y)) w) (y : α) (q : Addr) (cx : Nat) (hx : a.eval x = .slice (some q) 1 cx) (hc : (cel y).length = m) (hq : ∀ j u, (cel y)[j]? = some u → w.cell? (q.add j) = some u) (h1 : ∀ u ∈ cel y, u.oneCell' = true)
    (h63 : xs.length + 1 ≤ maxLen) (hbytes : (xs.length + 1) * bytes ≤ 140737488355328)
    (k : ∀ p' c' w', St B W ((As.and (rw' B ty m cel p' (xs.length + 1) c' (xs ++ [y])) Y)) w' → wpList P ops Q rest (a.put o.dst (.slice p' (xs.length + 1) c')) w') : wpList P ops Q (o :: rest) a w := by
  have hn : n = xs.length := h.sat.1.1
  subst hn
  refine wpList_append_at hgd s x t ho B ty i z m bytes ht hi hz hsize hby hzs hm (.slice p xs.length c) xs.length (xs.flatMap cel) hs h.sat.1.2 (some q) 1 cx (cel y) hx (by rw [hc, Nat.one_mul]) (fun j u hj => ⟨q, rfl, hq j u hj⟩) h1 h63 hbytes h.le (fun v' w' h2 h3 h4 => ?_)
  obtain ⟨p', c', rfl, hS⟩ := h.grown (ys := [y]) (k := xs.length + 1) rfl (by simpa using h2) h3 h4
  exact k p' c' w' hS
end
end Go.Proofs.Ytpjfkmaceaikbaa
