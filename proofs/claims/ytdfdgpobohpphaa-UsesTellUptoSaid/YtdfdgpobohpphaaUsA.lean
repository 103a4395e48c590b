/- What uses' search owns, as assertions that can be joined. -/
import Derived.Test.YtdfdgpobohpphaaBaseE
import Derived.Test.YtdfdgpobohpphaaUsM
import Derived.Test.YtdfdgpobohpphaaUsP
import Derived.Deep.RegionLaw
import Derived.Deep.OwnRows
namespace Go.Proofs.Ytdfdgpobohpphaa
open Go.RowKit Go.Maps
set_option linter.unusedVariables false
set_option linter.unusedSimpArgs false
set_option maxRecDepth 100000

/-- append of one element, at a step of a region that draws its order. -/
theorem step_app {P : Program} {α : Type} {B : Nat} {ty : TypeId} {m : Nat} {cel : α → List Value} {p : Option Addr} {n c : Nat} {xs : List α} {W w : World} {Y : As} {ops : Array Oper} {o : Oper} {a : Act} {K : Act → World → Prop} {Q : Exit → Act → World → Prop} {E : Prop} (hgd : o.guard = none) (s x : Operand) (t : TypeId)
    (ho : o.op = .call { callee := .builtin .append, args := #[s, x], argTypes := #[t, t] })
    (i : TypeInfo) (z : Value) (bytes : Nat) (ht : P.underlying t = some (.slice ty)) (hi : P.info? ty = some i) (hz : i.zero = some z) (hsize : i.size = m) (hby : i.bytes = bytes) (hzs : z.cells.size = m) (hm : 0 < m)
    (hs : a.eval s = .slice p n c) (h : St B W ((As.and (rw' B ty m cel p n c xs) Y)) w) (y : α) (q : Addr) (cx : Nat) (hx : a.eval x = .slice (some q) 1 cx) (hc : (cel y).length = m) (hq : ∀ j u, (cel y)[j]? = some u → w.cell? (q.add j) = some u) (h1 : ∀ u ∈ cel y, u.oneCell' = true)
    (h63 : xs.length + 1 ≤ maxLen) (hbytes : (xs.length + 1) * bytes ≤ 140737488355328)
    (k : ∀ p' c' w', St B W ((As.and (rw' B ty m cel p' (xs.length + 1) c' (xs ++ [y])) Y)) w' → K (a.put o.dst (.slice p' (xs.length + 1) c')) w') :
    if Region.wanted o (yielded ops a.tmps) = true then Oper.wp P o a w K Q else E := by
  have hn : n = xs.length := h.sat.1.1
  subst hn
  have hw : Region.wanted o (yielded ops a.tmps) = true := by simp [Region.wanted, hgd]
  rw [if_pos hw]
  obtain ⟨v', w', hr, h2, h3, -⟩ := run_append_own (P := P) w B t o.type ty i z m bytes ht hi hz hsize hby hzs hm (.slice p xs.length c) xs.length (xs.flatMap cel) h.sat.1.2 q 1 cx (cel y) (by rw [hc, Nat.one_mul]) hq h1 h63 hbytes h.le
  have h4 := append_where w B t o.type ty i z m bytes ht hi hz hsize hby hm (.slice p xs.length c) xs.length (xs.flatMap cel) h.sat.1.2 q 1 cx (cel y) (by rw [hc, Nat.one_mul]) hq h1 h63 hbytes v' w' hr
  unfold Oper.wp execOp
  simp only [ho, resolve, invoke, builtin, Sem.run_bind, Sem.run_pure, Result.andThen_ok, List.map_toArray, List.map_cons, List.map_nil, hs, hx, hr]
  obtain ⟨p', c', rfl, hS⟩ := h.grown (ys := [y]) (k := xs.length + 1) rfl (by simpa using h2) h3 h4
  exact k p' c' w' hS
theorem As.asl (a b c : As) : ((As.and ((As.and a b)) c)).le ((As.and a (As.and b c))) := ⟨fun w x => ⟨x.1.1, x.1.2, x.2⟩, fun k => by simp only [As.and_c]; omega⟩
theorem As.asr (a b c : As) : ((As.and a (As.and b c))).le ((As.and ((As.and a b)) c)) := ⟨fun w x => ⟨⟨x.1, x.2.1⟩, x.2.2⟩, fun k => by simp only [As.and_c]; omega⟩
theorem As.drop (a b : As) : ((As.and a b)).le b := ⟨fun w x => x.2, fun k => by simp only [As.and_c]; omega⟩
def bxs (bs : List (Nat × List Value)) : As := As.all (fun x => bx x.1 x.2) bs
theorem As.nob (b : As) : b.le ((As.and (bxs []) b)) := ⟨fun w x => ⟨trivial, x⟩, fun k => by show 0 + b.c k ≤ b.c k; omega⟩
theorem As.dropb (bs : List (Nat × List Value)) (b : As) : ((As.and (bxs bs) b)).le b := As.drop _ _
section
variable {B : Nat} {W w : World} {Y : As} {bs : List (Nat × List Value)}
theorem St.bpush (h : St B W ((As.and (bxs bs) Y)) w) {g : Nat} (hg : g = w.heap.size) (cs : List Value) (t : TypeId) : St B W ((As.and (bxs ((g, cs) :: bs)) Y)) (w.alloc (.cells cs.toArray t)) :=
  (h.push hg cs t).imp ⟨fun w x => ⟨⟨x.1, x.2.1⟩, x.2.2⟩, fun k => by simp only [bxs, As.all_cons, As.and_c]; omega⟩
theorem St.bget (h : St B W ((As.and (bxs bs) Y)) w) (i : Nat) {g : Nat} {cs : List Value} (e : bs[i]? = some (g, cs)) : Box g cs w := As.all_mem _ h.sat.1 (g, cs) (List.mem_of_getElem? e)
theorem St.bput (h : St B W ((As.and (bxs bs) Y)) w) (i : Nat) {g : Nat} {cs : List Value} (e : bs[i]? = some (g, cs)) (j : Nat) (v : Value) : St B W ((As.and (bxs (bs.set i (g, cs.set j v))) Y)) (w.setCell ⟨g, j, none⟩ v) := by
  obtain ⟨hi, e⟩ := List.getElem?_eq_some_iff.1 e
  have e1 : bs = bs.take i ++ (g, cs) :: bs.drop (i + 1) := by rw [← e, List.getElem_cons_drop, List.take_append_drop]
  have e2 : bs.set i (g, cs.set j v) = bs.take i ++ (g, cs.set j v) :: bs.drop (i + 1) := by rw [List.set_eq_take_append_cons_drop, if_pos hi]
  have h1 : St B W ((As.and (bx g cs) ((As.and (bxs (bs.take i)) (As.and (bxs (bs.drop (i + 1))) Y))))) w := by
    refine St.imp (X := (As.and (bxs (bs.take i ++ (g, cs) :: bs.drop (i + 1))) Y)) (by rw [← e1]; exact h) ⟨fun w x => ?_, fun k => ?_⟩
    · have := (As.all_at_app _ w _ _).1 x.1
      exact ⟨this.2.1, this.1, this.2.2, x.2⟩
    · simp only [As.and_c, bxs, As.all_c_app, As.all_cons]; omega
  rw [e2]
  refine (h1.set j v).imp ⟨fun w x => ⟨(As.all_at_app _ w _ _).2 ⟨x.2.1, x.1, x.2.2.1⟩, x.2.2.2⟩, fun k => ?_⟩
  simp only [As.and_c, bxs, As.all_c_app, As.all_cons, bx_c]; omega
end
theorem lit_cells2 (w : World) (o : Obj) (cs : Array Value) (ty : TypeId) : ∀ (j : Nat) (u : Value), cs.toList[j]? = some u → ((w.alloc o).alloc (.cells cs ty)).cell? ((⟨w.heap.size + 1, 0, none⟩ : Addr).add j) = some u := by
  intro j u h
  have h2 := lit_cells (w.alloc o) cs ty j u h
  have e : (w.alloc o).heap.size = w.heap.size + 1 := by simp
  rwa [e] at h2
theorem infoBs : (Try.prog.info? 36).map (fun i => (i.zero, i.size, i.bytes)) = some (some (.slice none 0 0), 1, 24) := by kernel_rfl

/-! Rows of bools. -/
def BoolRow (R : Nat) (bs : List Bool) (w : World) : Prop := w.rowIs R 4 bs.length (fun j => .bool (bs.getD j false))
def bA (R : Nat) (bs : List Bool) : As :=
  ⟨fun k => if R = k then 1 else 0, BoolRow R bs, fun w w' h hk => World.rowIs.of_block h (hk R (by simp)), fun w h k hk => by
    by_cases e : R = k
    · rw [← e]; exact World.rowIs.lt h
    · simp [e] at hk⟩
theorem bA_c (R : Nat) (bs : List Bool) (k : Nat) : (bA R bs).c k = if R = k then 1 else 0 := rfl
theorem bA_at (R : Nat) (bs : List Bool) (w : World) : (bA R bs).sat w = BoolRow R bs w := rfl
theorem BoolRow.cell {R : Nat} {bs : List Bool} {w : World} (h : BoolRow R bs w) (i : Nat) (hi : i < bs.length) : w.cell? ⟨R, i, none⟩ = some (.bool bs[i]) := by
  have := World.rowIs.cell h hi
  rw [this]
  simp [List.getD_eq_getElem?_getD, hi]
theorem BoolRow.set {R : Nat} {bs : List Bool} {w : World} (h : BoolRow R bs w) (i : Nat) (v : Bool) (hi : i < bs.length) : BoolRow R (bs.set i v) (w.setCell ⟨R, i, none⟩ (.bool v)) := by
  unfold BoolRow
  rw [List.length_set]
  refine (World.rowIs.set h i (.bool v)).congr fun j hj => ?_
  by_cases e : j = i
  · subst e; simp [List.getD_eq_getElem?_getD, hj]
  · simp [e, List.getD_eq_getElem?_getD, List.getElem?_set, Ne.symm e]
abbrev NL := List (Nat × List Bool)
def cB (x : Nat × List Bool) : List Value := [.slice (some ⟨x.1, 0, none⟩) x.2.length x.2.length]
theorem cB_one (x : Nat × List Bool) : ∀ u ∈ cB x, u.oneCell' = true := by intro u hu; unfold cB at hu; simp at hu; rw [hu]; rfl
theorem pC_one (x : Pl) : ∀ u ∈ pC x, u.oneCell' = true := by intro u hu; unfold pC at hu; simp at hu; rcases hu with rfl | rfl | rfl <;> rfl
def bAs (L : NL) : As := As.all (fun x => bA x.1 x.2) L
def tbl (L : NL) : List (List Bool) := L.map Prod.snd
section
variable {B : Nat} {W w : World} {Z : As}
theorem all_open {α : Type} (f : α → As) (xs : List α) (i : Nat) (hi : i < xs.length) (Y : As) : (As.and (As.all f xs) Y).le (As.and (f xs[i]) (As.and (As.all f (xs.take i ++ xs.drop (i + 1))) Y)) := by
  have e1 : xs = xs.take i ++ xs[i] :: xs.drop (i + 1) := by rw [List.getElem_cons_drop, List.take_append_drop]
  refine ⟨fun w x => ?_, fun k => ?_⟩
  · have h1 := x.1
    rw [e1] at h1
    have := (As.all_at_app f w _ _).1 h1
    exact ⟨this.2.1, (As.all_at_app f w _ _).2 ⟨this.1, this.2.2⟩, x.2⟩
  · have : (As.all f xs).c k = (As.all f (xs.take i ++ xs[i] :: xs.drop (i + 1))).c k := by rw [← e1]
    simp only [As.and_c]
    rw [this]
    simp only [As.all_c_app, As.all_cons, As.and_c]
    omega
theorem all_close {α : Type} (f : α → As) (xs : List α) (i : Nat) (hi : i < xs.length) (y : α) (Y : As) : (As.and (f y) (As.and (As.all f (xs.take i ++ xs.drop (i + 1))) Y)).le (As.and (As.all f (xs.set i y)) Y) := by
  have e2 : xs.set i y = xs.take i ++ y :: xs.drop (i + 1) := by rw [List.set_eq_take_append_cons_drop, if_pos hi]
  rw [e2]
  refine ⟨fun w x => ?_, fun k => ?_⟩
  · have := (As.all_at_app f w _ _).1 x.2.1
    exact ⟨(As.all_at_app f w _ _).2 ⟨this.1, x.1, this.2⟩, x.2.2⟩
  · simp only [As.and_c, As.all_c_app, As.all_cons]
    omega
/-- One bool is laid anew. -/
theorem St.setB {L : NL} (h : St B W (As.and (bAs L) Z) w) (b i : Nat) (hb : b < L.length) (hi : i < L[b].2.length) (v : Bool) : St B W (As.and (bAs (L.set b (L[b].1, L[b].2.set i v))) Z) (w.setCell ⟨L[b].1, i, none⟩ (.bool v)) := by
  have h1 := h.imp (all_open (fun x : Nat × List Bool => bA x.1 x.2) L b hb Z)
  refine St.imp (X := As.and (bA L[b].1 (L[b].2.set i v)) (As.and (As.all (fun x : Nat × List Bool => bA x.1 x.2) (L.take b ++ L.drop (b + 1))) Z)) ?_ (all_close (fun x : Nat × List Bool => bA x.1 x.2) L b hb (L[b].1, L[b].2.set i v) Z)
  refine h1.change rfl rfl rfl (by simp [World.setCell]) (fun k hk h0 => Below.heap_setCell w _ _ _ (fun e => ?_)) ?_ (fun k => .inl (Nat.le_refl _))
  · rw [bA_c, if_pos e.symm] at h0; cases h0
  · have : BoolRow L[b].1 L[b].2 w := h1.sat.1
    exact this.set i v hi
theorem St.getB {L : NL} (h : St B W (As.and (bAs L) Z) w) (b : Nat) (hb : b < L.length) : BoolRow L[b].1 L[b].2 w := (h.imp (all_open (fun x : Nat × List Bool => bA x.1 x.2) L b hb Z)).sat.1
theorem tbl_set (L : NL) (b i : Nat) (hb : b < L.length) (v : Bool) : tbl (L.set b (L[b].1, L[b].2.set i v)) = (tbl L).set b ((tbl L)[b]'(by unfold tbl; rw [List.length_map]; exact hb) |>.set i v) := by
  unfold tbl
  rw [List.map_set]
  simp
theorem cB_set (L : NL) (b i : Nat) (hb : b < L.length) (v : Bool) : (L.set b (L[b].1, L[b].2.set i v)).flatMap cB = L.flatMap cB := by
  apply List.ext_getElem?
  intro j
  have hm : ∀ x, (cB x).length = 1 := fun _ => rfl
  have key : ∀ M : NL, M.flatMap cB = M.map fun x => Value.slice (some ⟨x.1, 0, none⟩) x.2.length x.2.length := fun M => by
    induction M with
    | nil => rfl
    | cons x M ih => rw [List.flatMap_cons, ih]; rfl
  rw [key, key, List.getElem?_map, List.getElem?_map, List.getElem?_set]
  by_cases e : b = j
  · subst e
    rw [if_pos rfl, if_pos hb]
    simp [hb]
  · rw [if_neg e]
end
/-! The search. -/
structure Sk where
  np : Option Addr
  nc : Nat
  L : NL
  ab : Nat
  N : Nat
  o : Nat → Option Int
  S : Int → Sl
  P : Int → List Pl
  tp : Option Addr
  tc : Nat
  T : List Pl
def Sk.bx (k : Sk) (g : Nat) : As := Go.Proofs.Ytdfdgpobohpphaa.bx g [.slice k.np k.L.length k.nc, .map (some k.ab), .slice k.tp k.T.length k.tc]
def Sk.as (k : Sk) (B g : Nat) : As :=
  As.and (k.bx g) (As.and (rw' B 36 1 cB k.np k.L.length k.nc k.L) (As.and (bAs k.L) (As.and (grA k.ab k.N k.o k.S k.P) (rw' B 51 3 pC k.tp k.T.length k.tc k.T))))
end Go.Proofs.Ytdfdgpobohpphaa
