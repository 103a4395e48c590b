/- Rows of one's own that grow by append, as assertions that can be joined (St and As of PgA). -/
import Derived.Test.YtpjfkmaceaikbaaPgA
import Derived.Test.YtpjfkmaceaikbaaBaseE
import Derived.Deep.RegionLaw
import Derived.Deep.OwnRows
namespace Go.Proofs.Ytpjfkmaceaikbaa
open Go.RowKit Go.Maps
set_option linter.unusedVariables false
set_option linter.unusedSimpArgs false
set_option maxRecDepth 100000

/-- append of one element, at a step of a region that draws its order. -/
theorem step_app {P : Program} {α : Type} {B : Nat} {ty : TypeId} {m : Nat} {cel : α → List Value} {p : Option Addr} {n c : Nat} {xs : List α} {W w : World} {Y : As} {ops : Array Oper} {o : Oper} {a : Act} {K : Act → World → Prop} {Q : Exit → Act → World → Prop} {E : Prop} (hgd : o.guard = none) (s x : Operand) (t : TypeId)
    (ho : o.op = .call { callee := .builtin .append, args := #[s, x], argTypes := #[t, t] })
    (i : TypeInfo) (z : Value) (bytes : Nat) (ht : P.underlying t = some (.slice ty)) (hi : P.info? ty = some i) (hz : i.zero = some z) (hsize : i.size = m) (hby : i.bytes = bytes) (hzs : z.cells.size = m) (hm : 0 < m)
    (hs : a.eval s = .slice p n c) (h : St B W ((As.and (rw' B ty m cel p n c xs) Y)) w) (y : α) (q : Addr) (cx : Nat) (hx : a.eval x = .slice (some q) 1 cx) (hc : (cel y).length = m) (hq : ∀ j u, (cel y)[j]? = some u → w.cell? (q.add j) = some u) (h1 : ∀ u ∈ cel y, u.oneCell' = true)
    (h63 : xs.length + 1 ≤ maxLen) (hbytes : (xs.length + 1) * bytes ≤ 140737488355328)
    (k : ∀ p' c' w', St B W ((As.and (rw' B ty m cel p' (xs.length + 1) c' (xs ++ [y])) Y)) w' → K (a.put o.dst (.slice p' (xs.length + 1) c')) w') :
    if Region.wanted o (yielded ops a.tmps) = true then Oper.wp P o a w K Q else E := by
  have hn : n = xs.length := h.sat.1.1
  subst hn
  have hw : Region.wanted o (yielded ops a.tmps) = true := by simp [Region.wanted, hgd]
  rw [if_pos hw]
  obtain ⟨v', w', hr, h2, h3, -⟩ := run_append_own (P := P) w B t o.type ty i z m bytes ht hi hz hsize hby hzs hm (.slice p xs.length c) xs.length (xs.flatMap cel) h.sat.1.2 q 1 cx (cel y) (by rw [hc, Nat.one_mul]) hq h1 h63 hbytes h.le
  have h4 := append_where w B t o.type ty i z m bytes ht hi hz hsize hby hm (.slice p xs.length c) xs.length (xs.flatMap cel) h.sat.1.2 q 1 cx (cel y) (by rw [hc, Nat.one_mul]) hq h1 h63 hbytes v' w' hr
  unfold Oper.wp execOp
  simp only [ho, resolve, invoke, builtin, Sem.run_bind, Sem.run_pure, Result.andThen_ok, List.map_toArray, List.map_cons, List.map_nil, hs, hx, hr]
  obtain ⟨p', c', rfl, hS⟩ := h.grown (ys := [y]) (k := xs.length + 1) rfl (by simpa using h2) h3 h4
  exact k p' c' w' hS
theorem As.asl (a b c : As) : ((As.and ((As.and a b)) c)).le ((As.and a (As.and b c))) := ⟨fun w x => ⟨x.1.1, x.1.2, x.2⟩, fun k => by simp only [As.and_c]; omega⟩
theorem As.asr (a b c : As) : ((As.and a (As.and b c))).le ((As.and ((As.and a b)) c)) := ⟨fun w x => ⟨⟨x.1, x.2.1⟩, x.2.2⟩, fun k => by simp only [As.and_c]; omega⟩
theorem As.drop (a b : As) : ((As.and a b)).le b := ⟨fun w x => x.2, fun k => by simp only [As.and_c]; omega⟩
def bxs (bs : List (Nat × List Value)) : As := As.all (fun x => bx x.1 x.2) bs
theorem As.nob (b : As) : b.le ((As.and (bxs []) b)) := ⟨fun w x => ⟨trivial, x⟩, fun k => by show 0 + b.c k ≤ b.c k; omega⟩
theorem As.dropb (bs : List (Nat × List Value)) (b : As) : ((As.and (bxs bs) b)).le b := As.drop _ _
section
variable {B : Nat} {W w : World} {Y : As} {bs : List (Nat × List Value)}
theorem St.bpush (h : St B W ((As.and (bxs bs) Y)) w) {g : Nat} (hg : g = w.heap.size) (cs : List Value) (t : TypeId) : St B W ((As.and (bxs ((g, cs) :: bs)) Y)) (w.alloc (.cells cs.toArray t)) :=
  (h.push hg cs t).imp ⟨fun w x => ⟨⟨x.1, x.2.1⟩, x.2.2⟩, fun k => by simp only [bxs, As.all_cons, As.and_c]; omega⟩
theorem St.bget (h : St B W ((As.and (bxs bs) Y)) w) (i : Nat) {g : Nat} {cs : List Value} (e : bs[i]? = some (g, cs)) : Box g cs w := As.all_mem _ h.sat.1 (g, cs) (List.mem_of_getElem? e)
theorem St.bput (h : St B W ((As.and (bxs bs) Y)) w) (i : Nat) {g : Nat} {cs : List Value} (e : bs[i]? = some (g, cs)) (j : Nat) (v : Value) : St B W ((As.and (bxs (bs.set i (g, cs.set j v))) Y)) (w.setCell ⟨g, j, none⟩ v) := by
  obtain ⟨hi, e⟩ := List.getElem?_eq_some_iff.1 e
  have e1 : bs = bs.take i ++ (g, cs) :: bs.drop (i + 1) := by rw [← e, List.getElem_cons_drop, List.take_append_drop]
  have e2 : bs.set i (g, cs.set j v) = bs.take i ++ (g, cs.set j v) :: bs.drop (i + 1) := by rw [List.set_eq_take_append_cons_drop, if_pos hi]
  have h1 : St B W ((As.and (bx g cs) ((As.and (bxs (bs.take i)) (As.and (bxs (bs.drop (i + 1))) Y))))) w := by
    refine St.imp (X := (As.and (bxs (bs.take i ++ (g, cs) :: bs.drop (i + 1))) Y)) (by rw [← e1]; exact h) ⟨fun w x => ?_, fun k => ?_⟩
    · have := (As.all_at_app _ w _ _).1 x.1
      exact ⟨this.2.1, this.1, this.2.2, x.2⟩
    · simp only [As.and_c, bxs, As.all_c_app, As.all_cons]; omega
  rw [e2]
  refine (h1.set j v).imp ⟨fun w x => ⟨(As.all_at_app _ w _ _).2 ⟨x.2.1, x.1, x.2.2.1⟩, x.2.2.2⟩, fun k => ?_⟩
  simp only [As.and_c, bxs, As.all_c_app, As.all_cons, bx_c]; omega
end
theorem lit_cells2 (w : World) (o : Obj) (cs : Array Value) (ty : TypeId) : ∀ (j : Nat) (u : Value), cs.toList[j]? = some u → ((w.alloc o).alloc (.cells cs ty)).cell? ((⟨w.heap.size + 1, 0, none⟩ : Addr).add j) = some u := by
  intro j u h
  have h2 := lit_cells (w.alloc o) cs ty j u h
  have e : (w.alloc o).heap.size = w.heap.size + 1 := by simp
  rwa [e] at h2
theorem row_cell {α : Type} {B ty m : Nat} {cel : α → List Value} {p : Option Addr} {n c : Nat} {xs : List α} {w : World} (h : rowP B ty m cel p n c xs w) (hm : ∀ x, (cel x).length = m) (i : Nat) (hi : i < xs.length) :
    ∃ R, p = some ⟨R, 0, none⟩ ∧ B ≤ R ∧ R < w.heap.size ∧ xs.length ≤ c ∧ c ≤ maxLen ∧ (∀ j, j < m → w.cell? ⟨R, i * m + j, none⟩ = (cel xs[i])[j]?) := by
  obtain ⟨h1, h2⟩ := h
  rcases id h2.2 with ⟨e, h0⟩ | ⟨g, cap, cur, e, hg, hh, k1, k2, k3, k4⟩
  · injection e with e1 e2 e3; omega
  · injection e with e1 e2 e3
    subst e1 e3
    refine ⟨g, rfl, hg, (Array.getElem?_eq_some_iff.1 hh).1, by omega, k2, fun j hj => ?_⟩
    have hlt : i * m + j < n * m := by
      have := Nat.mul_le_mul_right m (Nat.succ_le_of_lt hi)
      rw [Nat.succ_mul] at this
      rw [h1]; omega
    rw [h2.cellAt _ hlt]
    exact flat_get cel m hm xs i hi j hj
theorem St.start (W : World) : St W.heap.size W As.emp W := ⟨Below.refl _ _, Nat.le_refl _, trivial, fun _ => Nat.zero_le _, fun _ h => absurd rfl h⟩
theorem St.join {B : Nat} {W w w' : World} {X Y : As} (h : St B W X w) (h' : St w.heap.size w Y w') : St B W (As.and X Y) w' := by
  refine ⟨h.below.trans (h'.below.mono h.le), Nat.le_trans h.le h'.le, ⟨X.stay w w' h.sat (fun k hk => h'.below.block k (h.inH k hk)), h'.sat⟩, fun k => ?_, fun k hk => ?_⟩
  · rw [As.and_c]
    have h1 := h.one k
    have h2 := h'.one k
    by_cases e : X.c k = 0
    · omega
    · by_cases e2 : Y.c k = 0
      · omega
      · have := h.inH k e; have := h'.own k e2; omega
  · rw [As.and_c] at hk
    by_cases e : X.c k = 0
    · exact Nat.le_trans h.le (h'.own k (by omega))
    · exact h.own k e
/-- A row of one's own lies in memory. -/
theorem rowP_in {α : Type} {B ty m : Nat} {cel : α → List Value} {E : Nat → World → α → Prop} {p : Option Addr} {n c : Nat} {xs : List α} {w : World} (hm : ∀ x, (cel x).length = m) (h : rowP B ty m cel p n c xs w) (hE : ∀ x ∈ xs, E w.heap.size w x) : ListIn cel E w.heap.size w p n c xs := by
  obtain ⟨h1, h2⟩ := h
  rcases id h2.2 with ⟨e, h0⟩ | ⟨g, cap, cur, e, hg, hh, k1, k2, k3, k4⟩
  · injection e with e1 e2 e3
    subst e1 e2 e3
    have : xs = [] := List.eq_nil_of_length_eq_zero h1.symm
    subst this
    exact ⟨h1, Nat.le_refl _, Nat.zero_le _, fun j u hu => by simp at hu, hE⟩
  · injection e with e1 e2 e3
    subst e1 e3
    refine ⟨h1, k1, k2, fun j u hu => ⟨⟨g, 0, none⟩, rfl, (Array.getElem?_eq_some_iff.1 hh).1, ?_⟩, hE⟩
    have hj : j < n * m := by rw [h1, ← flat_len cel m hm]; exact (List.getElem?_eq_some_iff.1 hu).1
    rw [add0, h2.cellAt j hj]
    exact hu
end Go.Proofs.Ytpjfkmaceaikbaa
