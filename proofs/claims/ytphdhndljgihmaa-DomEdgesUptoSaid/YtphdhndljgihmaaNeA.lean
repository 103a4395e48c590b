/- Package dom: what stands while nearest goes on. -/
import Derived.Test.YtphdhndljgihmaaSettle
import Derived.Test.YtphdhndljgihmaaGPairs
namespace Go.Proofs.Ytphdhndljgihmaa
open Go.RowKit Go.Maps
set_option linter.unusedVariables false
set_option linter.unusedSimpArgs false

theorem set_stay {w : World} {lo hi : Nat} {a : Addr} (h : a.block < lo ∨ hi ≤ a.block) (v : Value) : Stay lo hi w (w.setCell a v) := fun k h1 h2 => Below.heap_setCell _ _ _ _ (by omega)
theorem exc_stay {p : Nat → Prop} {w w' : World} {lo hi : Nat} (h : Exc p w w') (hh : hi ≤ w.heap.size) (hp : ∀ k, p k → k < lo) : Stay lo hi w w' := fun k h1 h2 => h.block k (by omega) (fun e => by have := hp k e; omega)
/-- One list of a list of lists is dropped. -/
theorem LL.drop {R n : Nat} {vs : Nat → Value} {M : Nat → List Int} {w : World} (h : LL R n vs M w) {t : Nat} (ht : t < n) : LL R n (fun j => if j = t then .slice none 0 0 else vs j) (fun j => if j = t then [] else M j) (w.setCell ⟨R, t, none⟩ (.slice none 0 0)) := by
  refine ⟨h.row.set t _, fun i hi => ?_, fun i j hi hj hne x e => ?_⟩
  · refine ownsRow_setCell_below ?_ (by dsimp only; omega) _
    by_cases e : i = t
    · simp only [if_pos e]
      exact World.ownsRow_nil _ _ _ _
    · simp only [if_neg e]
      exact h.own i hi
  · by_cases ei : i = t
    · simp only [if_pos ei] at e
      simp [Value.ownBlock] at e
    · simp only [if_neg ei] at e
      by_cases ej : j = t
      · simp only [if_pos ej]
        simp [Value.ownBlock]
      · simp only [if_neg ej]
        exact h.ap i j hi hj hne x e
/-- What stands while nearest goes on. -/
structure NeI (W : World) (ws : List Value) (sz a b c g d e : Nat) (smr : Nat → Nat) (ab : Nat → Int) (be ls : Nat → Nat) (wt : Nat → List Nat) (vs : Nat → Value) (w : World) : Prop where
  past : Past W.heap.size W w
  wbox : Box W.heap.size ws w
  tbox : Box g (forV sz a b c) w
  fm : ForM sz a b c smr ab be w
  lr : w.rowIs d 3 sz (fun i => .int .i64 (ls i : Nat))
  ll : LL e sz vs (fun s => ints (wt s)) w
  la : W.heap.size < a ∧ a < g
  lb : W.heap.size < b ∧ b < g
  lc : W.heap.size < c ∧ c < g
  gd : g < d
  de : d < e
section
variable {W w w' : World} {ws : List Value} {sz a b c g d e : Nat} {smr : Nat → Nat} {ab : Nat → Int} {be ls : Nat → Nat} {wt : Nat → List Nat} {vs : Nat → Value}
theorem NeI.later (h : NeI W ws sz a b c g d e smr ab be ls wt vs w) (hb : Below w.heap.size w w') : NeI W ws sz a b c g d e smr ab be ls wt vs w' :=
  ⟨h.past.trans ⟨h.past.size, hb.mono h.past.size⟩, h.wbox.later hb, h.tbox.later hb, h.fm.later hb, rowIs_kept h.lr (below_grown hb) (by simp), h.ll.later hb, h.la, h.lb, h.lc, h.gd, h.de⟩
theorem NeI.alloc (h : NeI W ws sz a b c g d e smr ab be ls wt vs w) (o : Obj) : NeI W ws sz a b c g d e smr ab be ls wt vs (w.alloc o) := h.later ((Below.refl _ _).alloc (Nat.le_refl _) o)
theorem NeI.drew (h : NeI W ws sz a b c g d e smr ab be ls wt vs w) : NeI W ws sz a b c g d e smr ab be ls wt vs w.drew := h.later (below_drew (Below.refl _ _))
theorem NeI.congr {smr' : Nat → Nat} {ab' : Nat → Int} {be' ls' : Nat → Nat} {wt' : Nat → List Nat} (h : NeI W ws sz a b c g d e smr ab be ls wt vs w) (e1 : ∀ i, i < sz → smr i = smr' i) (e2 : ∀ i, i < sz → ab i = ab' i) (e3 : ∀ i, i < sz → be i = be' i) (e4 : ∀ i, i < sz → ls i = ls' i) (e5 : ∀ i, i < sz → wt i = wt' i) : NeI W ws sz a b c g d e smr' ab' be' ls' wt' vs w :=
  ⟨h.past, h.wbox, h.tbox, h.fm.congr e1 e2 e3, h.lr.congr (fun i hi => by rw [e4 i hi]), h.ll.congr (fun i hi => by rw [e5 i hi]), h.la, h.lb, h.lc, h.gd, h.de⟩
theorem NeI.setA (h : NeI W ws sz a b c g d e smr ab be ls wt vs w) (i x : Nat) : NeI W ws sz a b c g d e (fun j => if j = i then x else smr j) ab be ls wt vs (w.setCell ⟨a, i, none⟩ (.int .i64 x)) := by
  obtain ⟨l1, l2⟩ := h.la
  have l3 := h.gd
  have l4 := h.de
  exact ⟨h.past.set (Nat.le_of_lt l1) _, h.wbox.other (by omega) _ _, h.tbox.other (by omega) _ _, h.fm.setA i x, h.lr.setOther (by dsimp only; omega) _, h.ll.stay (Nat.le_refl _) (set_stay (.inl (by dsimp only; omega)) _), h.la, h.lb, h.lc, h.gd, h.de⟩
theorem NeI.setB (h : NeI W ws sz a b c g d e smr ab be ls wt vs w) (i : Nat) (x : Int) : NeI W ws sz a b c g d e smr (fun j => if j = i then x else ab j) be ls wt vs (w.setCell ⟨b, i, none⟩ (.int .i64 x)) := by
  obtain ⟨l1, l2⟩ := h.lb
  have l3 := h.gd
  have l4 := h.de
  exact ⟨h.past.set (Nat.le_of_lt l1) _, h.wbox.other (by omega) _ _, h.tbox.other (by omega) _ _, h.fm.setB i x, h.lr.setOther (by dsimp only; omega) _, h.ll.stay (Nat.le_refl _) (set_stay (.inl (by dsimp only; omega)) _), h.la, h.lb, h.lc, h.gd, h.de⟩
theorem NeI.setD (h : NeI W ws sz a b c g d e smr ab be ls wt vs w) (i x : Nat) : NeI W ws sz a b c g d e smr ab be (fun j => if j = i then x else ls j) wt vs (w.setCell ⟨d, i, none⟩ (.int .i64 x)) := by
  have l0 := h.la
  have l1 := h.lb
  have l2 := h.lc
  have l3 := h.gd
  have l4 := h.de
  exact ⟨h.past.set (by dsimp only; omega) _, h.wbox.other (by omega) _ _, h.tbox.other (by omega) _ _, h.fm.setOther (by dsimp only; omega) (by dsimp only; omega) (by dsimp only; omega) _, (h.lr.set i _).congr (fun j hj => by by_cases e : j = i <;> simp [e]), h.ll.stay (Nat.le_refl _) (set_stay (.inl (by dsimp only; omega)) _), h.la, h.lb, h.lc, h.gd, h.de⟩
theorem NeI.look {ab' : Nat → Int} {be' : Nat → Nat} (h : NeI W ws sz a b c g d e smr ab be ls wt vs w) (hE : Exc (fun k => k = b ∨ k = c) w w') (hM : ForM sz a b c smr ab' be' w') : NeI W ws sz a b c g d e smr ab' be' ls wt vs w' := by
  have l0 := h.la
  have l1 := h.lb
  have l2 := h.lc
  have l3 := h.gd
  have l4 := h.de
  have hbx : ∀ {k : Nat} {cs : List Value}, Box k cs w → k ≠ b → k ≠ c → Box k cs w' := fun {k cs} hb h1 h2 => by
    have hk := hE.block k hb.1 (by omega)
    refine ⟨Nat.lt_of_lt_of_le hb.1 hE.size, fun i => (World.frozen?_of_block (a := ⟨k, i, none⟩) hk).trans (hb.2.1 i), fun i u hu => (World.cell?_of_block (a := ⟨k, i, none⟩) hk).trans (hb.2.2 i u hu)⟩
  refine ⟨h.past.trans ⟨h.past.size, hE.os, hE.tape, hE.output, hE.size, fun k hk => hE.block k (Nat.lt_of_lt_of_le hk h.past.size) (by omega)⟩, hbx h.wbox (by omega) (by omega), hbx h.tbox (by omega) (by omega), hM, h.lr.of_block (hE.block d h.lr.lt (by omega)), h.ll.stay (Nat.le_refl _) (exc_stay hE (Nat.le_refl _) (fun k hk => by have hk : k = b ∨ k = c := hk; omega)), h.la, h.lb, h.lc, h.gd, h.de⟩
theorem NeI.push {t n : Nat} {v' : Value} (h : NeI W ws sz a b c g d e smr ab be ls wt vs w) (ht : t < sz) (hr : w'.ownsRow (e + 1) 3 1 v' ((ints (wt t)).length + 1) ((ints (wt t)).flatMap intC ++ [.int .i64 n])) (hg : w.grownBy w' (vs t).ownBlock) (hm : Moved w (vs t) v') :
    NeI W ws sz a b c g d e smr ab be ls (fun s => if s = t then wt s ++ [n] else wt s) (fun j => if j = t then v' else vs j) (w'.setCell ⟨e, t, none⟩ v') := by
  have l0 := h.la
  have l1 := h.lb
  have l2 := h.lc
  have l3 := h.gd
  have l4 := h.de
  have hlt := (h.ll.own t ht).lt
  refine ⟨(h.past.grownRow hg (fun j ej => by have := hlt j ej; omega)).set (by dsimp only; omega) _, (h.wbox.kept hg (fun ej => by have := hlt _ ej.symm; omega)).other (by omega) _ _, (h.tbox.kept hg (fun ej => by have := hlt _ ej.symm; omega)).other (by omega) _ _, (h.fm.kept hg (fun ej => by have := hlt _ ej.symm; omega) (fun ej => by have := hlt _ ej.symm; omega) (fun ej => by have := hlt _ ej.symm; omega)).setOther (by dsimp only; omega) (by dsimp only; omega) (by dsimp only; omega) _, (rowIs_kept h.lr hg (fun ej => by have := hlt _ ej.symm; omega)).setOther (by dsimp only; omega) _, ?_, h.la, h.lb, h.lc, h.gd, h.de⟩
  refine (h.ll.snoc ht (x := (n : Int)) hr hg hm).congr (fun j hj => ?_)
  by_cases ej : j = t
  · subst ej
    rw [if_pos rfl, if_pos rfl, ints_app]
    rfl
  · rw [if_neg ej, if_neg ej]
theorem NeI.drop {t : Nat} (h : NeI W ws sz a b c g d e smr ab be ls wt vs w) (ht : t < sz) : NeI W ws sz a b c g d e smr ab be ls (fun s => if s = t then [] else wt s) (fun j => if j = t then .slice none 0 0 else vs j) (w.setCell ⟨e, t, none⟩ (.slice none 0 0)) := by
  have l0 := h.la
  have l1 := h.lb
  have l2 := h.lc
  have l3 := h.gd
  have l4 := h.de
  refine ⟨h.past.set (by dsimp only; omega) _, h.wbox.other (by omega) _ _, h.tbox.other (by omega) _ _, h.fm.setOther (by dsimp only; omega) (by dsimp only; omega) (by dsimp only; omega) _, h.lr.setOther (by dsimp only; omega) _, (h.ll.drop ht).congr (fun j hj => ?_), h.la, h.lb, h.lc, h.gd, h.de⟩
  by_cases ej : j = t
  · rw [if_pos ej, if_pos ej]; rfl
  · rw [if_neg ej, if_neg ej]
end
/-- The row of least numbers while n's is told: above n settled, n's so far, below as they were. -/
def smAt (sg : Nat → Nat) (n c u : Nat) : Nat := if n < u then sg u else if u = n then c else u
theorem smAt_hi {sg : Nat → Nat} {n c u : Nat} (h : n < u) : smAt sg n c u = sg u := if_pos h
theorem smAt_n (sg : Nat → Nat) (n c : Nat) : smAt sg n c n = c := by unfold smAt; rw [if_neg (Nat.lt_irrefl _), if_pos rfl]
theorem smAt_v {sg : Nat → Nat} {n c u : Nat} : smAt sg n c u = if u < n then u else if u = n then c else sg u := by
  unfold smAt
  by_cases e1 : n < u
  · rw [if_pos e1, if_neg (by omega), if_neg (by omega)]
  · by_cases e2 : u = n
    · rw [if_neg e1, if_pos e2, if_neg (by omega), if_pos e2]
    · rw [if_neg e1, if_neg e2, if_pos (by omega)]
theorem smAt_set (sg : Nat → Nat) (n c x u : Nat) : (if u = n then x else smAt sg n c u) = smAt sg n x u := by
  unfold smAt
  by_cases e : u = n
  · rw [if_pos e, if_neg (by omega), if_pos e]
  · rw [if_neg e, if_neg e]
    simp only [if_neg e]
/-- The numbers of the predecessors that have one. -/
def numsOf (bl L : List Nat) : List Nat := (L.filter fun x => decide (x ∈ bl)).map (nuL bl)
theorem numsOf_snoc (bl L : List Nat) (x : Nat) : numsOf bl (L ++ [x]) = if x ∈ bl then numsOf bl L ++ [nuL bl x] else numsOf bl L := by
  unfold numsOf
  rw [List.filter_append]
  by_cases h : x ∈ bl <;> simp [h]
theorem mem_numsOf {bl L : List Nat} {x : Nat} (h : x ∈ bl) (hL : x ∈ L) : nuL bl x ∈ numsOf bl L := by
  unfold numsOf
  exact List.mem_map_of_mem (List.mem_filter.2 ⟨hL, decide_eq_true h⟩)
end Go.Proofs.Ytphdhndljgihmaa
