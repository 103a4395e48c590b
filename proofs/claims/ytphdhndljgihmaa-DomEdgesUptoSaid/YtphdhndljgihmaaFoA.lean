/- Package dom: forestOf. -/
import Derived.Test.YtphdhndljgihmaaLkB
namespace Go.Proofs.Ytphdhndljgihmaa
open Go.RowKit Go.Maps
set_option linter.unusedVariables false
set_option linter.unusedSimpArgs false

/-- What stands while forestOf goes on. -/
structure FoS (W : World) (sz a b c g : Nat) (smr : Nat → Nat) (ab : Nat → Int) (be : Nat → Nat) (w : World) : Prop where
  past : Past W.heap.size W w
  rbox : Box W.heap.size [.slice none 0 0, .slice none 0 0, .slice none 0 0] w
  tbox : Box g (forV sz a b c) w
  fm : ForM sz a b c smr ab be w
  la : W.heap.size < a
  lb : W.heap.size < b
  lc : W.heap.size < c
  lg : W.heap.size < g
  ga : g ≠ a
  gb : g ≠ b
  gc : g ≠ c
/-- Where one of four new blocks lies. -/
abbrev At4 (W : World) (o1 o2 o3 o4 : Obj) (k : Nat) (o : Obj) : Prop := (k = W.heap.size + 1 ∧ o = o1) ∨ (k = W.heap.size + 1 + 1 ∧ o = o2) ∨ (k = W.heap.size + 1 + 1 + 1 ∧ o = o3) ∨ (k = W.heap.size + 1 + 1 + 1 + 1 ∧ o = o4)
theorem At4.heap {W : World} {o0 o1 o2 o3 o4 o : Obj} {k : Nat} (h : At4 W o1 o2 o3 o4 k o) : ((((((W.alloc o0).alloc o1).alloc o2).alloc o3).alloc o4).drew).heap[k]? = some o ∧ W.heap.size < k := by
  have key : ∀ (w : World) (o : Obj) (k : Nat), k = w.heap.size → (w.alloc o).heap[k]? = some o := fun w o k e => by subst e; exact World.alloc_heap_new w o
  have far : ∀ (w : World) (o : Obj) (k : Nat), k < w.heap.size → (w.alloc o).heap[k]? = w.heap[k]? := fun w o k h => Below.heap_alloc w o k h
  show (((((W.alloc o0).alloc o1).alloc o2).alloc o3).alloc o4).heap[k]? = some o ∧ W.heap.size < k
  rcases h with ⟨rfl, rfl⟩ | ⟨rfl, rfl⟩ | ⟨rfl, rfl⟩ | ⟨rfl, rfl⟩
  · refine ⟨?_, by omega⟩
    rw [far _ _ _ (by simp), far _ _ _ (by simp), far _ _ _ (by simp)]
    exact key _ _ _ (by simp)
  · refine ⟨?_, by omega⟩
    rw [far _ _ _ (by simp), far _ _ _ (by simp)]
    exact key _ _ _ (by simp)
  · refine ⟨?_, by omega⟩
    rw [far _ _ _ (by simp)]
    exact key _ _ _ (by simp)
  · exact ⟨key _ _ _ (by simp), by omega⟩
theorem fo_fin {W v : World} {o1 o2 o3 o4 : Obj} {sz a b c g : Nat} {t : TypeId} (hv : v = ((((((W.alloc (.cells #[.slice none 0 0, .slice none 0 0, .slice none 0 0] t)).alloc o1).alloc o2).alloc o3).alloc o4).drew))
    (hg : At4 W o1 o2 o3 o4 g (.cells #[.slice (some ⟨a, 0, none⟩) sz sz, .slice (some ⟨b, 0, none⟩) sz sz, .slice (some ⟨c, 0, none⟩) sz sz] t))
    (ha : At4 W o1 o2 o3 o4 a (.cells (madeCells #[.int .i64 0] sz) 3)) (hb : At4 W o1 o2 o3 o4 b (.cells (madeCells #[.int .i64 0] sz) 3)) (hc : At4 W o1 o2 o3 o4 c (.cells (madeCells #[.int .i64 0] sz) 3))
    (hd : a ≠ b ∧ a ≠ c ∧ b ≠ c ∧ g ≠ a ∧ g ≠ b ∧ g ≠ c) : FoS W sz a b c g (fun _ => 0) (fun _ => 0) (fun _ => 0) v := by
  subst hv
  obtain ⟨d1, d2, d3, d4, d5, d6⟩ := hd
  have hrow : ∀ {w : World} {k : Nat}, w.heap[k]? = some (.cells (madeCells #[.int .i64 0] sz) 3) → w.rowIs k 3 sz (fun _ => .int .i64 0) := fun {w k} h => by
    obtain ⟨cc, h1, h2, h3⟩ := World.rowIs_made W (.int .i64 0) sz 3
    rw [World.alloc_heap_new] at h1
    injection h1 with h1
    injection h1 with h1
    subst h1
    exact ⟨_, h, h2, h3⟩
  have hbox : ∀ {w : World} {k : Nat} {x y z : Value}, w.heap[k]? = some (.cells #[x, y, z] t) → Box k [x, y, z] w := fun {w k x y z} h =>
    ⟨(Array.getElem?_eq_some_iff.1 h).1, fun i => by simp [World.frozen?, h], fun i u hu => by
      simp only [World.cell?, h]
      simpa using hu⟩
  refine ⟨((((((Past.refl (Nat.le_refl _)).alloc _).alloc _).alloc _).alloc _).alloc _).drew, ?_, hbox hg.heap.1, ⟨hrow ha.heap.1, hrow hb.heap.1, hrow hc.heap.1, d1, d2, d3⟩, (ha.heap (o0 := .map #[] 0)).2, (hb.heap (o0 := .map #[] 0)).2, (hc.heap (o0 := .map #[] 0)).2, (hg.heap (o0 := .map #[] 0)).2, d4, d5, d6⟩
  exact ((((Box.new W rfl [.slice none 0 0, .slice none 0 0, .slice none 0 0] t).alloc _).alloc _).alloc _).alloc _
section
variable {W w w' : World} {sz a b c g : Nat} {smr : Nat → Nat} {ab : Nat → Int} {be : Nat → Nat}
theorem FoS.later (h : FoS W sz a b c g smr ab be w) (hb : Below w.heap.size w w') : FoS W sz a b c g smr ab be w' :=
  ⟨h.past.trans ⟨h.past.size, hb.mono h.past.size⟩, h.rbox.later hb, h.tbox.later hb, h.fm.later hb, h.la, h.lb, h.lc, h.lg, h.ga, h.gb, h.gc⟩
theorem FoS.setA (h : FoS W sz a b c g smr ab be w) (i x : Nat) : FoS W sz a b c g (fun j => if j = i then x else smr j) ab be (w.setCell ⟨a, i, none⟩ (.int .i64 x)) :=
  ⟨h.past.set (Nat.le_of_lt h.la) _, h.rbox.other (by have := h.la; omega) _ _, h.tbox.other (by have := h.ga; omega) _ _, h.fm.setA i x, h.la, h.lb, h.lc, h.lg, h.ga, h.gb, h.gc⟩
theorem FoS.setB (h : FoS W sz a b c g smr ab be w) (i : Nat) (x : Int) : FoS W sz a b c g smr (fun j => if j = i then x else ab j) be (w.setCell ⟨b, i, none⟩ (.int .i64 x)) :=
  ⟨h.past.set (Nat.le_of_lt h.lb) _, h.rbox.other (by have := h.lb; omega) _ _, h.tbox.other (by have := h.gb; omega) _ _, h.fm.setB i x, h.la, h.lb, h.lc, h.lg, h.ga, h.gb, h.gc⟩
theorem FoS.setC (h : FoS W sz a b c g smr ab be w) (i x : Nat) : FoS W sz a b c g smr ab (fun j => if j = i then x else be j) (w.setCell ⟨c, i, none⟩ (.int .i64 x)) :=
  ⟨h.past.set (Nat.le_of_lt h.lc) _, h.rbox.other (by have := h.lc; omega) _ _, h.tbox.other (by have := h.gc; omega) _ _, h.fm.setC i x, h.la, h.lb, h.lc, h.lg, h.ga, h.gb, h.gc⟩
theorem FoS.congr {smr' : Nat → Nat} {ab' : Nat → Int} {be' : Nat → Nat} (h : FoS W sz a b c g smr ab be w) (e1 : ∀ i, i < sz → smr i = smr' i) (e2 : ∀ i, i < sz → ab i = ab' i) (e3 : ∀ i, i < sz → be i = be' i) : FoS W sz a b c g smr' ab' be' w :=
  ⟨h.past, h.rbox, h.tbox, h.fm.congr e1 e2 e3, h.la, h.lb, h.lc, h.lg, h.ga, h.gb, h.gc⟩
theorem FoS.next {i : Nat} (h : FoS W sz a b c g (fun j => if j = i then i else if j < i then j else 0) (fun j => if j = i then -1 else if j < i then -1 else 0) (fun j => if j = i then i else if j < i then j else 0) w) (hw : Below w.heap.size w w') : FoS W sz a b c g (fun j => if j < i + 1 then j else 0) (fun j => if j < i + 1 then -1 else 0) (fun j => if j < i + 1 then j else 0) w' := by
  have e : ∀ j : Nat, (if j = i then i else if j < i then j else 0) = if j < i + 1 then j else 0 := fun j => by
    by_cases e1 : j = i
    · subst e1; simp
    · by_cases e2 : j < i
      · rw [if_neg e1, if_pos e2, if_pos (by omega)]
      · rw [if_neg e1, if_neg e2, if_neg (by omega)]
  have e2 : ∀ j : Nat, (if j = i then (-1 : Int) else if j < i then -1 else 0) = if j < i + 1 then -1 else 0 := fun j => by
    by_cases e1 : j = i
    · subst e1; simp
    · by_cases e2 : j < i
      · rw [if_neg e1, if_pos e2, if_pos (by omega)]
      · rw [if_neg e1, if_neg e2, if_neg (by omega)]
  exact (h.later hw).congr (fun j _ => e j) (fun j _ => e2 j) (fun j _ => e j)
end
set_option maxRecDepth 100000 in
set_option maxHeartbeats 2000000 in
theorem forestOf_any (sz : Nat) (W : World) (hsz : sz ≤ 1048576) :
    Calls Try.prog 46 #[.int .i64 sz] W fun e w' => ∃ a b c, e = .returned (.agg #[.slice (some ⟨a, 0, none⟩) sz sz, .slice (some ⟨b, 0, none⟩) sz sz, .slice (some ⟨c, 0, none⟩) sz sz]) ∧ Past W.heap.size W w' ∧ ForM sz a b c (fun i => i) (fun _ => -1) (fun i => i) w' ∧ W.heap.size ≤ a ∧ W.heap.size ≤ b ∧ W.heap.size ≤ c := by
  have hmk := run_make_row' (P := Try.prog) 22 3 _ _ Try.underlying22 infoInt rfl .i64 .i64 sz (by omega) (by omega)
  go_enter Try.func46, Try.ntmps46
  go_wp2_with fail
  go_cut [3] (fun s3 wx => ∃ a b c g, s3 = .pointer (some ⟨g, 0, none⟩) ∧ FoS W sz a b c g (fun _ => 0) (fun _ => 0) (fun _ => 0) wx)
  case first =>
    go_region
    all_goals
      go_wp2_with fail
      go_meet
      refine' ⟨_, _, _, _, rfl, fo_fin rfl ?_ ?_ ?_ ?_ ?_⟩
      rotate_left 3
      all_goals first
        | (with_reducible exact .inl ⟨rfl, rfl⟩)
        | (with_reducible exact .inr (.inl ⟨rfl, rfl⟩))
        | (with_reducible exact .inr (.inr (.inl ⟨rfl, rfl⟩)))
        | (with_reducible exact .inr (.inr (.inr ⟨rfl, rfl⟩)))
        | omega
  case rest =>
    obtain ⟨a, b, c, g, rfl, hI⟩ := hcut
    have HI := Lib.hid hI
    clear hI hmk
    go_wp2_with fail
    go_loopw [13] (fun t wr => ∃ i : Nat, i ≤ sz ∧ t = .int .i64 i ∧ FoS W sz a b c g (fun j => if j < i then j else 0) (fun j => if j < i then -1 else 0) (fun j => if j < i then j else 0) wr) (fun t _ => sz - (intOf t).toNat)
    case atStart => exact ⟨0, Nat.zero_le _, rfl, HI.out.congr (fun i _ => by simp) (fun i _ => by simp) (fun i _ => by simp)⟩
    case round =>
      obtain ⟨i, hin, rfl, hI⟩ := hrel
      clear HI
      have HI := Lib.hid hI
      have x0 := hI.tbox.get 0 _ rfl
      have x1 := hI.tbox.get 1 _ rfl
      have x2 := hI.tbox.get 2 _ rfl
      by_cases hlt : i < sz
      · have y0 := hI.fm.ra.cell hlt
        have y1 := hI.fm.rb.cell hlt
        have y2 := hI.fm.rc.cell hlt
        have f0 := hI.fm.ra.frozen i
        have f1 := hI.fm.rb.frozen i
        have f2 := hI.fm.rc.frozen i
        have nab := hI.fm.nab
        have nac := hI.fm.nac
        have nbc := hI.fm.nbc
        have ga := hI.ga
        have gb := hI.gb
        have gc := hI.gc
        clear hI
        go_wp2_with fail
        go_region
        go_wp2_with fail
        exact ⟨⟨i + 1, by omega, by go_num, (((HI.out.setA i i).setB i (-1)).setC i i).next (below_drew (Below.refl _ _))⟩, by simp [intOf]; omega⟩
      · obtain rfl : i = sz := by omega
        have r0 := hI.rbox.get 0 _ rfl
        have r1 := hI.rbox.get 1 _ rfl
        have r2 := hI.rbox.get 2 _ rfl
        have rf := hI.rbox.2.1
        clear hI
        go_wp2_with fail
        have R := ((HI.out.rbox.set 0 (.slice (some ⟨a, 0, none⟩) i i)).set 1 (.slice (some ⟨b, 0, none⟩) i i)).set 2 (.slice (some ⟨c, 0, none⟩) i i)
        have z0 := R.get 0 _ rfl
        have z1 := R.get 1 _ rfl
        have z2 := R.get 2 _ rfl
        have h := HI.out
        have hla := h.la
        have hlb := h.lb
        have hlc := h.lc
        have hM := ((h.fm.setOther (g := ⟨W.heap.size, 0, none⟩) (by dsimp only; omega) (by dsimp only; omega) (by dsimp only; omega) (.slice (some ⟨a, 0, none⟩) i i)).setOther (g := ⟨W.heap.size, 1, none⟩) (by dsimp only; omega) (by dsimp only; omega) (by dsimp only; omega) (.slice (some ⟨b, 0, none⟩) i i)).setOther (g := ⟨W.heap.size, 2, none⟩) (by dsimp only; omega) (by dsimp only; omega) (by dsimp only; omega) (.slice (some ⟨c, 0, none⟩) i i)
        refine bodyPost_ret (v := .agg #[.slice (some ⟨a, 0, none⟩) i i, .slice (some ⟨b, 0, none⟩) i i, .slice (some ⟨c, 0, none⟩) i i]) (by simp [results, Try.results46, go_sem, z0, z1, z2]) rfl ?_
        exact ⟨a, b, c, rfl, ((h.past.set (a := ⟨W.heap.size, 0, none⟩) (Nat.le_refl _) _).set (a := ⟨W.heap.size, 1, none⟩) (Nat.le_refl _) _).set (a := ⟨W.heap.size, 2, none⟩) (Nat.le_refl _) _, hM.congr (fun j hj => if_pos hj) (fun j hj => if_pos hj) (fun j hj => if_pos hj), by omega, by omega, by omega⟩
end Go.Proofs.Ytphdhndljgihmaa
