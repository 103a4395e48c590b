/- What this seat takes of layer 2's texts (BaseG) -/
import Derived.Test.YtmampoakdjjbiaaGreatDoorBaseE
import Derived.OwnWalk
import Derived.Deep.QuietTactic
import Derived.BigQuiet
namespace Go.Proofs.YtmampoakdjjbiaaGreatDoor
open Go.RowKit Go.Maps
set_option linter.unusedVariables false
set_option linter.unusedSimpArgs false

theorem var_ext {x y : PVar} (h : x.nm = y.nm) (k : x.size = y.size) : x = y := by
  obtain ⟨a, b⟩ := x
  obtain ⟨c, d⟩ := y
  obtain rfl : a = c := h
  obtain rfl : b = d := k
  rfl
theorem var_row {B : Nat} {w : World} {p : Option Addr} {n c : Nat} {L : List PVar} {E : Nat → World → PVar → Prop} (h : ListIn varC E B w p n c L) (i : Nat) (hi : i < L.length) :
    ∃ a, p = some a ∧ a.block < B ∧ w.cell? (a.add (i * 2)) = some (.string L[i].nm) ∧ w.cell? ⟨(a.add (i * 2)).block, (a.add (i * 2)).off + 1, none⟩ = some (.int .i64 L[i].size) := by
  obtain ⟨h1, h2, h3, h4, -⟩ := h
  obtain ⟨a, e, ha, hc⟩ := h4.at (m := 2) (fun _ => rfl) i hi (by decide)
  refine ⟨a, e, ha, hc 0 (by decide), ?_⟩
  have := hc 1 (by decide); rw [add_add a _ 1 (by decide)] at this; exact this
/-- The signature of callee n: whether there is one, its parameters' types, what it returns. -/
def callD (m : PMod) (n : Int) : Bool × List Int × Int :=
  if 0 ≤ n then (match m.fs[n.toNat]? with | some f => (true, f.ps, f.rt) | none => (false, [], 0))
  else (match m.xs[(-1 - n).toNat]? with | some x => (true, x.ps, x.rt) | none => (false, [], 0))
theorem in_nil {α : Type} {cel : α → List Value} {E : Nat → World → α → Prop} (B : Nat) (w : World) : ListIn cel E B w none 0 0 [] := by
  refine ⟨rfl, Nat.le_refl _, by unfold maxLen; omega, ?_, by simp⟩
  intro j u hj; simp at hj
theorem callD_fn (m : LMod) (N : Nat) (h : N < m.fs.length) : callD (modD m) (N : Int) = (true, m.fs[N].ps, m.fs[N].rt) := by
  unfold callD modD
  rw [if_pos (by omega)]
  simp [List.getElem?_map, List.getElem?_eq_getElem h, fnD]
theorem callD_fn_no (m : LMod) (N : Nat) (h : ¬ N < m.fs.length) : callD (modD m) (N : Int) = (false, [], 0) := by
  unfold callD modD
  rw [if_pos (by omega)]
  simp [List.getElem?_map, List.getElem?_eq_none (Nat.le_of_not_lt h)]
theorem callD_ext (m : LMod) (N : Nat) (h : N < m.xs.length) : callD (modD m) (-1 - (N : Int)) = (true, m.xs[N].ps, m.xs[N].rt) := by
  unfold callD modD
  rw [if_neg (by omega), show (-1 - (-1 - (N : Int))).toNat = N by omega]
  simp [List.getElem?_map, List.getElem?_eq_getElem h, extD]
theorem callD_ext_no (m : LMod) (N : Nat) (h : ¬ N < m.xs.length) : callD (modD m) (-1 - (N : Int)) = (false, [], 0) := by
  unfold callD modD
  rw [if_neg (by omega), show (-1 - (-1 - (N : Int))).toNat = N by omega]
  simp [List.getElem?_map, List.getElem?_eq_none (Nat.le_of_not_lt h)]
/-- What the document's Callee tells: the list lies where the module's lies. -/
def RTold (m : LMod) (n : Int) (W : World) (e : Ending) (w' : World) : Prop :=
  ∃ p k c ps t b, e = .returned (.tuple #[.slice p k c, .int .i64 t, .bool b]) ∧ callD (modD m) n = (b, ps, t) ∧ Below W.heap.size W w' ∧ ListIn intC NoMem W.heap.size W p k c ps
set_option maxRecDepth 100000 in
set_option maxHeartbeats 1000000 in
theorem rCallee_any (m : LMod) (n : Int) (hn : -9223372036854775808 ≤ n) (hn' : n ≤ 9223372036854775807) (W : World) (h : ModIn W.heap.size W m) :
    Calls Tryz.prog 99 #[.agg (modC m).toArray, .int .i64 n] W (RTold m n W) := by
  obtain ⟨vp, vn, vc, vs, xp, xn, xc, xs, fp, fn, fc, fs⟩ := m
  obtain ⟨-, h2, h3⟩ := h
  simp only at h2 h3
  obtain rfl : xn = xs.length := h2.1
  obtain rfl : fn = fs.length := h3.1
  have k2 := h2.2.1
  have k3 := h2.2.2.1
  have k2' := h3.2.1
  have k3' := h3.2.2.1
  unfold maxLen at k3 k3'
  have H2 := Lib.hid h2
  have H3 := Lib.hid h3
  clear h2 h3
  show Calls Tryz.prog 99 #[.agg #[.slice vp vn vc, .slice xp xs.length xc, .slice fp fs.length fc], .int .i64 n] W (RTold ⟨vp, vn, vc, vs, xp, xs.length, xc, xs, fp, fs.length, fc, fs⟩ n W)
  have hP := (Past.refl (Nat.le_refl W.heap.size)).alloc (.cells #[.slice vp vn vc, .slice xp xs.length xc, .slice fp fs.length fc] 26)
  have A1 : Box W.heap.size [.slice vp vn vc, .slice xp xs.length xc, .slice fp fs.length fc] (W.alloc (.cells #[.slice vp vn vc, .slice xp xs.length xc, .slice fp fs.length fc] 26)) := Box.new W rfl _ _
  have a1 := A1.get 1 _ rfl
  have a2 := A1.get 2 _ rfl
  go_enter Tryz.func99, Tryz.ntmps99
  by_cases hz : 0 ≤ n
  · obtain ⟨N, rfl⟩ := Int.eq_ofNat_of_zero_le hz
    by_cases hlt : N < fs.length
    · obtain ⟨a, rfl, ha, c0, c1, c2, c3⟩ := fn_row H3.out N hlt
      have d1 := (hP.2.cell (p := ⟨(a.add (N * 4)).block, (a.add (N * 4)).off + 1, none⟩) (blk_add a _ ha)).trans c1
      have d2 := (hP.2.cell (p := ⟨(a.add (N * 4)).block, (a.add (N * 4)).off + 2, none⟩) (blk_add a _ ha)).trans c2
      go_wp2_with fail
      go_region
      all_goals go_wp2
      all_goals go_ret3
      all_goals exact ⟨_, _, _, _, _, _, rfl, callD_fn _ N hlt, by first | exact hP.2 | exact below_drew hP.2, (H3.out.2.2.2.2 _ (List.getElem_mem hlt)).1⟩
    · go_wp2_with fail
      go_ret3
      exact ⟨_, _, _, _, _, _, rfl, callD_fn_no _ N hlt, hP.2, in_nil _ _⟩
  · obtain ⟨N, rfl⟩ : ∃ N : Nat, n = -1 - (N : Int) := ⟨(-1 - n).toNat, by omega⟩
    have eN : -1 - (-1 - (N : Int)) = N := by omega
    by_cases hlt : N < xs.length
    · obtain ⟨a, rfl, ha, c0, c1, c2⟩ := ext_row H2.out N hlt
      have d1 := (hP.2.cell (p := ⟨(a.add (N * 3)).block, (a.add (N * 3)).off + 1, none⟩) (blk_add a _ ha)).trans c1
      have d2 := (hP.2.cell (p := ⟨(a.add (N * 3)).block, (a.add (N * 3)).off + 2, none⟩) (blk_add a _ ha)).trans c2
      go_wp2_with fail
      go_region
      all_goals go_wp2
      all_goals go_ret3
      all_goals exact ⟨_, _, _, _, _, _, rfl, callD_ext _ N hlt, by first | exact hP.2 | exact below_drew hP.2, H2.out.2.2.2.2 _ (List.getElem_mem hlt)⟩
    · go_wp2_with fail
      go_ret3
      exact ⟨_, _, _, _, _, _, rfl, callD_ext_no _ N hlt, hP.2, in_nil _ _⟩
/-- What the program's Callee tells: the list is its own. -/
def PTold (m : LMod) (n : Int) (W : World) (e : Ending) (w' : World) : Prop :=
  ∃ p k c ps t b, e = .returned (.tuple #[.slice p k c, .int .i64 t, .bool b]) ∧ callD (modD m) n = (b, ps, t) ∧ Past W.heap.size W w' ∧ ListOwn 3 1 intC NoOwn W.heap.size w'.heap.size w' p k c ps
theorem fnZ_le {m : LMod} (N : Nat) (h : N < m.fs.length) (hq : modZ (modD m) ≤ 1048576) : m.fs[N].ps.length ≤ 1048576 := by
  have h1 := fnsZ_mem (List.mem_map_of_mem (f := fnD) (List.getElem_mem h))
  have h2 : m.vs.length + ((m.xs.map extD).map extZ).sum + ((m.fs.map fnD).map fnZ).sum ≤ 1048576 := hq
  have h3 : m.fs[N].ps.length ≤ fnZ (fnD m.fs[N]) := by unfold fnZ fnD; simp only; omega
  omega
theorem extZ_le {m : LMod} (N : Nat) (h : N < m.xs.length) (hq : modZ (modD m) ≤ 1048576) : m.xs[N].ps.length ≤ 1048576 := by
  have h1 := extsZ_mem (List.mem_map_of_mem (f := extD) (List.getElem_mem h))
  have h2 : m.vs.length + ((m.xs.map extD).map extZ).sum + ((m.fs.map fnD).map fnZ).sum ≤ 1048576 := hq
  have h3 : m.xs[N].ps.length ≤ extZ (extD m.xs[N]) := by unfold extZ extD; simp only; omega
  omega
set_option maxRecDepth 100000 in
set_option maxHeartbeats 1000000 in
theorem Callee_own (m : LMod) (n : Int) (hn : -9223372036854775808 ≤ n) (hn' : n ≤ 9223372036854775807) (hq : modZ (modD m) ≤ 1048576) (W : World) (h : ModIn W.heap.size W m) :
    Calls Tryz.prog 92 #[.agg (modC m).toArray, .int .i64 n] W (PTold m n W) := by
  obtain ⟨vp, vn, vc, vs, xp, xn, xc, xs, fp, fn, fc, fs⟩ := m
  obtain ⟨-, h2, h3⟩ := h
  simp only at h2 h3
  obtain rfl : xn = xs.length := h2.1
  obtain rfl : fn = fs.length := h3.1
  have k2 := h2.2.1
  have k3 := h2.2.2.1
  have k2' := h3.2.1
  have k3' := h3.2.2.1
  unfold maxLen at k3 k3'
  have H2 := Lib.hid h2
  have H3 := Lib.hid h3
  clear h2 h3
  show Calls Tryz.prog 92 #[.agg #[.slice vp vn vc, .slice xp xs.length xc, .slice fp fs.length fc], .int .i64 n] W (PTold ⟨vp, vn, vc, vs, xp, xs.length, xc, xs, fp, fs.length, fc, fs⟩ n W)
  have hP := (Past.refl (Nat.le_refl W.heap.size)).alloc (.cells #[.slice vp vn vc, .slice xp xs.length xc, .slice fp fs.length fc] 26)
  have A1 : Box W.heap.size [.slice vp vn vc, .slice xp xs.length xc, .slice fp fs.length fc] (W.alloc (.cells #[.slice vp vn vc, .slice xp xs.length xc, .slice fp fs.length fc] 26)) := Box.new W rfl _ _
  have a1 := A1.get 1 _ rfl
  have a2 := A1.get 2 _ rfl
  go_enter Tryz.func92, Tryz.ntmps92
  by_cases hz : 0 ≤ n
  · obtain ⟨N, rfl⟩ := Int.eq_ofNat_of_zero_le hz
    by_cases hlt : N < fs.length
    · obtain ⟨a, rfl, ha, c0, c1, c2, c3⟩ := fn_row H3.out N hlt
      have d0 := (hP.2.cell (p := a.add (N * 4)) (blk_add a _ ha)).trans c0
      have d3 := (hP.2.cell (p := ⟨(a.add (N * 4)).block, (a.add (N * 4)).off + 3, none⟩) (blk_add a _ ha)).trans c3
      have d1 := (hP.2.cell (p := ⟨(a.add (N * 4)).block, (a.add (N * 4)).off + 1, none⟩) (blk_add a _ ha)).trans c1
      have d2 := (hP.2.cell (p := ⟨(a.add (N * 4)).block, (a.add (N * 4)).off + 2, none⟩) (blk_add a _ ha)).trans c2
      have HL := Lib.hid ((H3.out.2.2.2.2 _ (List.getElem_mem hlt)).1)
      have hzl : fs[N].ps.length ≤ 1048576 := by have := fnZ_le N hlt hq; omega
      have hP2 := hP.alloc (.cells #[.string fs[N].nm, .slice fs[N].pp fs[N].pn fs[N].pc, .int .i64 fs[N].rt, .slice fs[N].bp fs[N].bn fs[N].bc] 45)
      have F2 : Box (W.heap.size + 1) [.string fs[N].nm, .slice fs[N].pp fs[N].pn fs[N].pc, .int .i64 fs[N].rt, .slice fs[N].bp fs[N].bn fs[N].bc] ((W.alloc (.cells #[.slice vp vn vc, .slice xp xs.length xc, .slice (some a) fs.length fc] 26)).alloc (.cells #[.string fs[N].nm, .slice fs[N].pp fs[N].pn fs[N].pc, .int .i64 fs[N].rt, .slice fs[N].bp fs[N].bn fs[N].bc] 45)) := Box.new _ (by simp) _ _
      have cI : ∀ w, (w.cell? ⟨W.heap.size + 1, 1, none⟩ = some (.slice fs[N].pp fs[N].pn fs[N].pc) ∧ w.cell? ⟨W.heap.size + 1, 2, none⟩ = some (.int .i64 fs[N].rt) ∧ W.heap.size + 1 < w.heap.size ∧ Below W.heap.size W w) → Calls Tryz.prog 114 #[.slice fs[N].pp fs[N].pn fs[N].pc] w fun e w' => ∃ p' c', e = .returned (.slice p' fs[N].pn c') ∧ w'.cell? ⟨W.heap.size + 1, 1, none⟩ = some (.slice fs[N].pp fs[N].pn fs[N].pc) ∧ w'.cell? ⟨W.heap.size + 1, 2, none⟩ = some (.int .i64 fs[N].rt) ∧ W.heap.size + 1 < w'.heap.size ∧ Below W.heap.size W w' ∧ ListOwn 3 1 intC NoOwn W.heap.size w'.heap.size w' p' fs[N].pn c' fs[N].ps := by
        rintro w ⟨q1, q2, q3, q4⟩
        refine (copyInts_own w _ _ _ fs[N].ps (HL.out.lasts lasts_NoMem q4 q4.size) hzl).mono ?_
        rintro e w' ⟨p', c', rfl, hp, ho⟩
        obtain ⟨o1, o2, o3, o4⟩ := ho
        exact ⟨p', c', rfl, (hp.2.cell (p := ⟨W.heap.size + 1, 1, none⟩) q3).trans q1, (hp.2.cell (p := ⟨W.heap.size + 1, 2, none⟩) q3).trans q2, Nat.lt_of_lt_of_le q3 hp.2.size, q4.trans (hp.2.mono q4.size), o1, o2.mono q4.size, o3, o4.down q4.size⟩
      have f1 := F2.get 1 _ rfl
      have f2 := F2.get 2 _ rfl
      have hb2 := hP2.2
      have HH := Lib.hid hlt
      clear F2 hzl hP2
      go_wp2_with fail
      go_region_held3 (fun w' => w'.cell? ⟨W.heap.size + 1, 1, none⟩ = some (.slice fs[N].pp fs[N].pn fs[N].pc) ∧ w'.cell? ⟨W.heap.size + 1, 2, none⟩ = some (.int .i64 fs[N].rt) ∧ W.heap.size + 1 < w'.heap.size ∧ Below W.heap.size W w')
        (((try dsimp only); (repeat' apply And.intro) <;> (first | (with_reducible assumption) | exact f1 | exact f2 | exact k0 | exact k1 | assumption | (rw [World.cell?_drew]; with_reducible assumption) | (with_reducible apply below_drew; with_reducible assumption) | (simp <;> omega))))
        (first
          | ((refine (cI _ ?pre).mono ?_); (case pre => ((repeat' apply And.intro) <;> (first | (with_reducible assumption) | (rw [World.cell?_drew]; with_reducible assumption) | (with_reducible apply below_drew; with_reducible assumption) | exact f1 | exact f2 | (simp <;> omega)))); rintro e w' ⟨p', c', rfl, k0, k1, k2, k3, k4⟩))
      all_goals (try go_wp2)
      all_goals go_ret3
      all_goals first
        | exact ⟨_, _, _, _, _, _, rfl, callD_fn _ N HH.out, ⟨Nat.le_refl _, k3⟩, k4⟩
        | exact ⟨_, _, _, _, _, _, rfl, callD_fn _ N HH.out, ⟨Nat.le_refl _, below_drew k3⟩, k4.stay local_NoOwn (fun _ _ _ => rfl)⟩
    · go_wp2_with fail
      go_ret3
      exact ⟨_, _, _, _, _, _, rfl, callD_fn_no _ N hlt, hP, own_nil _ hP.size⟩
  · obtain ⟨N, rfl⟩ : ∃ N : Nat, n = -1 - (N : Int) := ⟨(-1 - n).toNat, by omega⟩
    have eN : -1 - (-1 - (N : Int)) = N := by omega
    by_cases hlt : N < xs.length
    · obtain ⟨a, rfl, ha, c0, c1, c2⟩ := ext_row H2.out N hlt
      have d0 := (hP.2.cell (p := a.add (N * 3)) (blk_add a _ ha)).trans c0
      have d1 := (hP.2.cell (p := ⟨(a.add (N * 3)).block, (a.add (N * 3)).off + 1, none⟩) (blk_add a _ ha)).trans c1
      have d2 := (hP.2.cell (p := ⟨(a.add (N * 3)).block, (a.add (N * 3)).off + 2, none⟩) (blk_add a _ ha)).trans c2
      have HL := Lib.hid (H2.out.2.2.2.2 _ (List.getElem_mem hlt))
      have hzl : xs[N].ps.length ≤ 1048576 := by have := extZ_le N hlt hq; omega
      have hP2 := hP.alloc (.cells #[.string xs[N].nm, .slice xs[N].pp xs[N].pn xs[N].pc, .int .i64 xs[N].rt] 47)
      have F2 : Box (W.heap.size + 1) [.string xs[N].nm, .slice xs[N].pp xs[N].pn xs[N].pc, .int .i64 xs[N].rt] ((W.alloc (.cells #[.slice vp vn vc, .slice (some a) xs.length xc, .slice fp fs.length fc] 26)).alloc (.cells #[.string xs[N].nm, .slice xs[N].pp xs[N].pn xs[N].pc, .int .i64 xs[N].rt] 47)) := Box.new _ (by simp) _ _
      have cI : ∀ w, (w.cell? ⟨W.heap.size + 1, 1, none⟩ = some (.slice xs[N].pp xs[N].pn xs[N].pc) ∧ w.cell? ⟨W.heap.size + 1, 2, none⟩ = some (.int .i64 xs[N].rt) ∧ W.heap.size + 1 < w.heap.size ∧ Below W.heap.size W w) → Calls Tryz.prog 114 #[.slice xs[N].pp xs[N].pn xs[N].pc] w fun e w' => ∃ p' c', e = .returned (.slice p' xs[N].pn c') ∧ w'.cell? ⟨W.heap.size + 1, 1, none⟩ = some (.slice xs[N].pp xs[N].pn xs[N].pc) ∧ w'.cell? ⟨W.heap.size + 1, 2, none⟩ = some (.int .i64 xs[N].rt) ∧ W.heap.size + 1 < w'.heap.size ∧ Below W.heap.size W w' ∧ ListOwn 3 1 intC NoOwn W.heap.size w'.heap.size w' p' xs[N].pn c' xs[N].ps := by
        rintro w ⟨q1, q2, q3, q4⟩
        refine (copyInts_own w _ _ _ xs[N].ps (HL.out.lasts lasts_NoMem q4 q4.size) hzl).mono ?_
        rintro e w' ⟨p', c', rfl, hp, ho⟩
        obtain ⟨o1, o2, o3, o4⟩ := ho
        exact ⟨p', c', rfl, (hp.2.cell (p := ⟨W.heap.size + 1, 1, none⟩) q3).trans q1, (hp.2.cell (p := ⟨W.heap.size + 1, 2, none⟩) q3).trans q2, Nat.lt_of_lt_of_le q3 hp.2.size, q4.trans (hp.2.mono q4.size), o1, o2.mono q4.size, o3, o4.down q4.size⟩
      have f1 := F2.get 1 _ rfl
      have f2 := F2.get 2 _ rfl
      have hb2 := hP2.2
      have HH := Lib.hid hlt
      clear F2 hzl hP2
      go_wp2_with fail
      go_region_held3 (fun w' => w'.cell? ⟨W.heap.size + 1, 1, none⟩ = some (.slice xs[N].pp xs[N].pn xs[N].pc) ∧ w'.cell? ⟨W.heap.size + 1, 2, none⟩ = some (.int .i64 xs[N].rt) ∧ W.heap.size + 1 < w'.heap.size ∧ Below W.heap.size W w')
        (((try dsimp only); (repeat' apply And.intro) <;> (first | (with_reducible assumption) | exact f1 | exact f2 | exact k0 | exact k1 | assumption | (rw [World.cell?_drew]; with_reducible assumption) | (with_reducible apply below_drew; with_reducible assumption) | (simp <;> omega))))
        (first
          | ((refine (cI _ ?pre).mono ?_); (case pre => ((repeat' apply And.intro) <;> (first | (with_reducible assumption) | (rw [World.cell?_drew]; with_reducible assumption) | (with_reducible apply below_drew; with_reducible assumption) | exact f1 | exact f2 | (simp <;> omega)))); rintro e w' ⟨p', c', rfl, k0, k1, k2, k3, k4⟩))
      all_goals (try go_wp2)
      all_goals go_ret3
      all_goals first
        | exact ⟨_, _, _, _, _, _, rfl, callD_ext _ N HH.out, ⟨Nat.le_refl _, k3⟩, k4⟩
        | exact ⟨_, _, _, _, _, _, rfl, callD_ext _ N HH.out, ⟨Nat.le_refl _, below_drew k3⟩, k4.stay local_NoOwn (fun _ _ _ => rfl)⟩
    · go_wp2_with fail
      go_ret3
      exact ⟨_, _, _, _, _, _, rfl, callD_ext_no _ N hlt, hP, own_nil _ hP.size⟩
theorem below_drewN {B : Nat} {W w : World} (h : Below B W w) (n : Nat) : Below B W (w.drewN n) := ⟨h.os, h.tape, h.output, h.size, h.block⟩
theorem modD_vs {x y : LMod} (e : modD x = modD y) : x.vs = y.vs := congrArg PMod.vs e
theorem modD_xs {x y : LMod} (e : modD x = modD y) : x.xs.map extD = y.xs.map extD := congrArg PMod.xs e
theorem modD_fs {x y : LMod} (e : modD x = modD y) : x.fs.map fnD = y.fs.map fnD := congrArg PMod.fs e
theorem map_len {α β : Type} {f : α → β} {xs ys : List α} (e : xs.map f = ys.map f) : xs.length = ys.length := by
  have := congrArg List.length e
  rwa [List.length_map, List.length_map] at this
theorem map_at {α β : Type} {f : α → β} {xs ys : List α} (e : xs.map f = ys.map f) (i : Nat) (h1 : i < xs.length) (h2 : i < ys.length) : f xs[i] = f ys[i] := by
  have e3 : (xs.map f)[i]? = (ys.map f)[i]? := by rw [e]
  rw [List.getElem?_map, List.getElem?_map, List.getElem?_eq_getElem h1, List.getElem?_eq_getElem h2] at e3
  exact Option.some.inj e3
theorem map_all {α β : Type} {f : α → β} {xs ys : List α} (hl : xs.length = ys.length) (h : ∀ i (h1 : i < xs.length) (h2 : i < ys.length), f xs[i] = f ys[i]) : xs.map f = ys.map f :=
  list_ext (by simpa using hl) (fun m m1 m2 => by simpa using h m (by simpa using m1) (by simpa using m2))
theorem tells_no {p : Prop} {W w : World} (hp : ¬ p) (hb : Below W.heap.size W w) : Tells p W (.returned (.bool false)) w := ⟨false, rfl, by simpa using hp, hb⟩
theorem tells_yes {p : Prop} {W w : World} (hp : p) (hb : Below W.heap.size W w) : Tells p W (.returned (.bool true)) w := ⟨true, rfl, by simpa using hp, hb⟩
set_option maxRecDepth 100000 in
set_option maxHeartbeats 4000000 in
theorem rSame_any (x y : LMod) (W : World) (h : ModIn W.heap.size W x) (h' : ModIn W.heap.size W y) :
    Calls Tryz.prog 14 #[.agg (modC x).toArray, .agg (modC y).toArray] W (Tells (modD x = modD y) W) := by
  obtain ⟨p, ep⟩ : ∃ p : Prop, p = (modD x = modD y) := ⟨_, rfl⟩
  have HN1 : Hid (x.vs ≠ y.vs → ¬ p) := Lib.hid (by rw [ep]; exact fun n e => n (modD_vs e))
  have HN2 : Hid (x.xs.map extD ≠ y.xs.map extD → ¬ p) := Lib.hid (by rw [ep]; exact fun n e => n (modD_xs e))
  have HN3 : Hid (x.fs.map fnD ≠ y.fs.map fnD → ¬ p) := Lib.hid (by rw [ep]; exact fun n e => n (modD_fs e))
  have HY : Hid (x.vs = y.vs → x.xs.map extD = y.xs.map extD → x.fs.map fnD = y.fs.map fnD → p) := Lib.hid (by rw [ep]; intro e1 e2 e3; unfold modD; rw [e1, e2, e3])
  rw [← ep]
  clear ep
  obtain ⟨vp, vn, vc, vs, xp, xn, xc, xs, fp, fn, fc, fs⟩ := x
  obtain ⟨vp', vn', vc', vs', xp', xn', xc', xs', fp', fn', fc', fs'⟩ := y
  simp only at HN1 HN2 HN3 HY
  obtain rfl : vn = vs.length := h.1.1
  obtain rfl : xn = xs.length := h.2.1.1
  obtain rfl : fn = fs.length := h.2.2.1
  obtain rfl : vn' = vs'.length := h'.1.1
  obtain rfl : xn' = xs'.length := h'.2.1.1
  obtain rfl : fn' = fs'.length := h'.2.2.1
  have kv : vs.length ≤ vc ∧ vc ≤ maxLen := ⟨h.1.2.1, h.1.2.2.1⟩
  have kx : xs.length ≤ xc ∧ xc ≤ maxLen := ⟨h.2.1.2.1, h.2.1.2.2.1⟩
  have kf : fs.length ≤ fc ∧ fc ≤ maxLen := ⟨h.2.2.2.1, h.2.2.2.2.1⟩
  have kv' : vs'.length ≤ vc' ∧ vc' ≤ maxLen := ⟨h'.1.2.1, h'.1.2.2.1⟩
  have kx' : xs'.length ≤ xc' ∧ xc' ≤ maxLen := ⟨h'.2.1.2.1, h'.2.1.2.2.1⟩
  have kf' : fs'.length ≤ fc' ∧ fc' ≤ maxLen := ⟨h'.2.2.2.1, h'.2.2.2.2.1⟩
  unfold maxLen at kv kx kf kv' kx' kf'
  obtain ⟨kv1, kv2⟩ := kv
  obtain ⟨kx1, kx2⟩ := kx
  obtain ⟨kf1, kf2⟩ := kf
  obtain ⟨kv1', kv2'⟩ := kv'
  obtain ⟨kx1', kx2'⟩ := kx'
  obtain ⟨kf1', kf2'⟩ := kf'
  have HV := Lib.hid h.1
  have HX := Lib.hid h.2.1
  have HF := Lib.hid h.2.2
  have HV' := Lib.hid h'.1
  have HX' := Lib.hid h'.2.1
  have HF' := Lib.hid h'.2.2
  simp only at HV HX HF HV' HX' HF'
  clear h h'
  show Calls Tryz.prog 14 #[.agg #[.slice vp vs.length vc, .slice xp xs.length xc, .slice fp fs.length fc], .agg #[.slice vp' vs'.length vc', .slice xp' xs'.length xc', .slice fp' fs'.length fc']] W _
  have hP := (Past.refl (Nat.le_refl W.heap.size)).alloc (.cells #[.slice vp vs.length vc, .slice xp xs.length xc, .slice fp fs.length fc] 26)
  have A1 : Box W.heap.size [.slice vp vs.length vc, .slice xp xs.length xc, .slice fp fs.length fc] (W.alloc (.cells #[.slice vp vs.length vc, .slice xp xs.length xc, .slice fp fs.length fc] 26)) := Box.new W rfl _ _
  have z1 : (W.alloc (.cells #[.slice vp vs.length vc, .slice xp xs.length xc, .slice fp fs.length fc] 26)).heap.size = W.heap.size + 1 := by simp
  go_enter Tryz.func14, Tryz.ntmps14
  go_upto_region 1 with fail
  generalize (W.alloc (.cells #[.slice vp vs.length vc, .slice xp xs.length xc, .slice fp fs.length fc] 26)) = w1 at *
  have hP2 := hP.alloc (.cells #[.slice vp' vs'.length vc', .slice xp' xs'.length xc', .slice fp' fs'.length fc'] 26)
  have A2 := A1.alloc (.cells #[.slice vp' vs'.length vc', .slice xp' xs'.length xc', .slice fp' fs'.length fc'] 26)
  have B2 : Box (W.heap.size + 1) [.slice vp' vs'.length vc', .slice xp' xs'.length xc', .slice fp' fs'.length fc'] (w1.alloc (.cells #[.slice vp' vs'.length vc', .slice xp' xs'.length xc', .slice fp' fs'.length fc'] 26)) := Box.new w1 (by omega) _ _
  generalize (w1.alloc (.cells #[.slice vp' vs'.length vc', .slice xp' xs'.length xc', .slice fp' fs'.length fc'] 26)) = w2 at *
  have a0 := A2.get 0 _ rfl
  have b0 := B2.get 0 _ rfl
  have a1 := A2.get 1 _ rfl
  have b1 := B2.get 1 _ rfl
  have a2 := A2.get 2 _ rfl
  have b2 := B2.get 2 _ rfl
  clear A1 hP z1
  by_cases ev : vs.length = vs'.length
  case neg =>
    have g : ((vs.length : Int) != (vs'.length : Int)) = true := by simp; omega
    have E := Lib.hid ev
    clear ev
    go_wp2_with fail
    go_ret
    exact tells_no (HN1.out fun e => E.out (by rw [e])) hP2.2
  have gv : ((vs.length : Int) != (vs'.length : Int)) = false := by simp [ev]
  have EV := Lib.hid ev
  clear ev
  by_cases ex : xs.length = xs'.length
  case neg =>
    have g : ((xs.length : Int) != (xs'.length : Int)) = true := by simp; omega
    have E := Lib.hid ex
    clear ex
    go_wp2_with fail
    go_ret
    exact tells_no (HN2.out fun e => E.out (map_len e)) hP2.2
  have gx : ((xs.length : Int) != (xs'.length : Int)) = false := by simp [ex]
  have EX := Lib.hid ex
  clear ex
  by_cases ef : fs.length = fs'.length
  case neg =>
    have g : ((fs.length : Int) != (fs'.length : Int)) = true := by simp; omega
    have E := Lib.hid ef
    clear ef
    go_wp2_with fail
    go_ret
    exact tells_no (HN3.out fun e => E.out (map_len e)) hP2.2
  have gf : ((fs.length : Int) != (fs'.length : Int)) = false := by simp [ef]
  have EF := Lib.hid ef
  clear ef
  go_wp2_with fail
  clear gv gx gf a0 a1 a2 b0 b1 b2
  have SA := Lib.hid A2
  have SB := Lib.hid B2
  have SP := Lib.hid hP2
  clear A2 B2 hP2
  go_loopw [5] (fun t wr => ∃ i : Nat, i ≤ vs.length ∧ t = .int .i64 i ∧ Below w2.heap.size w2 wr ∧ Hid (∀ j (h1 : j < vs.length) (h2 : j < vs'.length), j < i → vs[j] = vs'[j])) (fun t _ => vs.length - (intOf t).toNat)
  case atStart => exact ⟨0, Nat.zero_le _, rfl, Below.refl _ _, Lib.hid (fun i _ _ h => absurd h (Nat.not_lt_zero i))⟩
  case round =>
    obtain ⟨i, hi, rfl, hb, hE⟩ := hrel
    have P4 := SP.out.trans ⟨SP.out.size, hb.mono SP.out.size⟩
    have A4 := SA.out.later hb
    have B4 := SB.out.later hb
    have a0 := A4.get 0 _ rfl
    have b0 := B4.get 0 _ rfl
    by_cases hlt : i < vs.length
    · have hlt' : i < vs'.length := by have := EV.out; omega
      obtain ⟨a, rfl, ha, hc0, hc1⟩ := var_row HV.out i hlt
      obtain ⟨a', rfl, ha', hc0', hc1'⟩ := var_row HV'.out i hlt'
      have f0 := (P4.2.cell (p := a.add (i * 2)) (blk_add a _ ha)).trans hc0
      have f1 := (P4.2.cell (p := ⟨(a.add (i * 2)).block, (a.add (i * 2)).off + 1, none⟩) (blk_add a _ ha)).trans hc1
      have f0' := (P4.2.cell (p := a'.add (i * 2)) (blk_add a' _ ha')).trans hc0'
      have f1' := (P4.2.cell (p := ⟨(a'.add (i * 2)).block, (a'.add (i * 2)).off + 1, none⟩) (blk_add a' _ ha')).trans hc1'
      clear hc0 hc1 hc0' hc1'
      by_cases q0 : vs[i].nm = vs'[i].nm ∧ vs[i].size = vs'[i].size
      · have HQ : Hid (vs[i] = vs'[i]) := Lib.hid (var_ext q0.1 q0.2)
        obtain ⟨q1, q2⟩ := q0
        rw [← q1] at f0'
        rw [← q2] at f1'
        clear q1 q2
        go_wp2_with fail
        go_region
        all_goals go_wp2
        all_goals exact ⟨⟨i + 1, by omega, by go_num, by first | exact hb | exact below_drew hb, Lib.hid (fun j h1 h2 h3 => by
          by_cases e : j = i
          · subst e; exact HQ.out
          · exact hE.out j h1 h2 (by omega))⟩, by simp [intOf]; omega⟩
      · have HQ : Hid (¬ vs[i] = vs'[i]) := Lib.hid (fun e => q0 ⟨by rw [e], by rw [e]⟩)
        by_cases q1 : vs[i].nm = vs'[i].nm
        · rw [← q1] at f0'
          have q2 : ¬ vs[i].size = vs'[i].size := fun q2 => q0 ⟨q1, q2⟩
          clear q0 q1
          go_wp2_with fail
          go_region
          all_goals go_wp2
          all_goals go_ret
          all_goals exact tells_no (HN1.out (fun e => by subst e; exact HQ.out rfl)) (by first | exact P4.2 | exact below_drew P4.2)
        · clear q0
          have q3 : ¬ vs[i].nm.toList = vs'[i].nm.toList := fun e => q1 (str_inj e)
          go_wp2_with fail
          go_region
          all_goals go_wp2
          all_goals go_ret
          all_goals exact tells_no (HN1.out (fun e => by subst e; exact HQ.out rfl)) (by first | exact P4.2 | exact below_drew P4.2)
    · have EV2 : Hid (vs = vs') := Lib.hid (list_ext EV.out (fun j h1 h2 => hE.out j h1 h2 (by omega)))
      obtain rfl : i = vs.length := by omega
      clear hE hlt hi
      go_wp2_with fail
      clear a0 b0
      have SA := Lib.hid A4
      have SB := Lib.hid B4
      have SP := Lib.hid P4
      clear A4 B4 P4 hb
      generalize wr = wo at *
      go_loopw [6] (fun t wr => ∃ i : Nat, i ≤ xs.length ∧ t = .int .i64 i ∧ Below wo.heap.size wo wr ∧ Hid (∀ j (h1 : j < xs.length) (h2 : j < xs'.length), j < i → extD xs[j] = extD xs'[j])) (fun t _ => xs.length - (intOf t).toNat)
      case atStart => exact ⟨0, Nat.zero_le _, rfl, Below.refl _ _, Lib.hid (fun i _ _ h => absurd h (Nat.not_lt_zero i))⟩
      case round =>
        obtain ⟨i, hi, rfl, hb, hE⟩ := hrel
        have P4 := SP.out.trans ⟨SP.out.size, hb.mono SP.out.size⟩
        have A4 := SA.out.later hb
        have B4 := SB.out.later hb
        have a1 := A4.get 1 _ rfl
        have b1 := B4.get 1 _ rfl
        have al := A4.1
        have bl := B4.1
        by_cases hlt : i < xs.length
        · have hlt' : i < xs'.length := by have := EX.out; omega
          obtain ⟨a, rfl, ha, c0, c1, c2⟩ := ext_row HX.out i hlt
          obtain ⟨a', rfl, ha', c0', c1', c2'⟩ := ext_row HX'.out i hlt'
          have hBW := P4.2.size
          have la : a.block < wr.heap.size := Nat.lt_of_lt_of_le ha hBW
          have la' : a'.block < wr.heap.size := Nat.lt_of_lt_of_le ha' hBW
          have d0 := (P4.2.cell (p := a.add (i * 3)) (blk_add a _ ha)).trans c0
          have d1 := (P4.2.cell (p := ⟨(a.add (i * 3)).block, (a.add (i * 3)).off + 1, none⟩) (blk_add a _ ha)).trans c1
          have d2 := (P4.2.cell (p := ⟨(a.add (i * 3)).block, (a.add (i * 3)).off + 2, none⟩) (blk_add a _ ha)).trans c2
          have e0 := (P4.2.cell (p := a'.add (i * 3)) (blk_add a' _ ha')).trans c0'
          have e1 := (P4.2.cell (p := ⟨(a'.add (i * 3)).block, (a'.add (i * 3)).off + 1, none⟩) (blk_add a' _ ha')).trans c1'
          have e2 := (P4.2.cell (p := ⟨(a'.add (i * 3)).block, (a'.add (i * 3)).off + 2, none⟩) (blk_add a' _ ha')).trans c2'
          clear c0 c1 c2 c0' c1' c2'
          have hib : Below wr.heap.size wr wr := Below.refl _ _
          have HL := Lib.hid (HX.out.2.2.2.2 _ (List.getElem_mem hlt))
          have HL' := Lib.hid (HX'.out.2.2.2.2 _ (List.getElem_mem hlt'))
          have cI : ∀ w, Below wr.heap.size wr w → Calls Tryz.prog 42 #[.slice xs[i].pp xs[i].pn xs[i].pc, .slice xs'[i].pp xs'[i].pn xs'[i].pc] w (fun e w' => ∃ b : Bool, e = .returned (.bool b) ∧ (b = true ↔ xs[i].ps = xs'[i].ps) ∧ Below wr.heap.size wr w') := fun w hw => by
            have P6 := P4.trans ⟨P4.size, hw.mono P4.size⟩
            exact (Ints_any w _ _ _ _ _ _ _ _ (past_lasts lasts_Ext HL.out P6) (past_lasts lasts_Ext HL'.out P6)).mono fun e w' ⟨b, h1, h2, h3⟩ => ⟨b, h1, h2, hw.trans (h3.mono hw.size)⟩
          have HS : Hid (∀ w', Below wr.heap.size wr w' → (w'.cell? ⟨W.heap.size, 1, none⟩ = some (.slice (some a) xs.length xc) ∧ w'.cell? ⟨W.heap.size + 1, 1, none⟩ = some (.slice (some a') xs'.length xc') ∧ w'.cell? (a.add (i * 3)) = some (.string xs[i].nm) ∧ w'.cell? ⟨(a.add (i * 3)).block, (a.add (i * 3)).off + 1, none⟩ = some (.slice xs[i].pp xs[i].pn xs[i].pc) ∧ w'.cell? ⟨(a.add (i * 3)).block, (a.add (i * 3)).off + 2, none⟩ = some (.int .i64 xs[i].rt) ∧ w'.cell? (a'.add (i * 3)) = some (.string xs'[i].nm) ∧ w'.cell? ⟨(a'.add (i * 3)).block, (a'.add (i * 3)).off + 1, none⟩ = some (.slice xs'[i].pp xs'[i].pn xs'[i].pc) ∧ w'.cell? ⟨(a'.add (i * 3)).block, (a'.add (i * 3)).off + 2, none⟩ = some (.int .i64 xs'[i].rt) ∧ Below wr.heap.size wr w')) := Lib.hid (fun w' hb => ⟨(hb.cell (p := ⟨W.heap.size, 1, none⟩) al).trans a1, (hb.cell (p := ⟨W.heap.size + 1, 1, none⟩) bl).trans b1, (hb.cell (p := a.add (i * 3)) (blk_add a _ la)).trans d0, (hb.cell (p := ⟨(a.add (i * 3)).block, (a.add (i * 3)).off + 1, none⟩) (blk_add a _ la)).trans d1, (hb.cell (p := ⟨(a.add (i * 3)).block, (a.add (i * 3)).off + 2, none⟩) (blk_add a _ la)).trans d2, (hb.cell (p := a'.add (i * 3)) (blk_add a' _ la')).trans e0, (hb.cell (p := ⟨(a'.add (i * 3)).block, (a'.add (i * 3)).off + 1, none⟩) (blk_add a' _ la')).trans e1, (hb.cell (p := ⟨(a'.add (i * 3)).block, (a'.add (i * 3)).off + 2, none⟩) (blk_add a' _ la')).trans e2, hb⟩)
          go_wp2_with fail
          go_region_held3 (fun w' => w'.cell? ⟨W.heap.size, 1, none⟩ = some (.slice (some a) xs.length xc) ∧ w'.cell? ⟨W.heap.size + 1, 1, none⟩ = some (.slice (some a') xs'.length xc') ∧ w'.cell? (a.add (i * 3)) = some (.string xs[i].nm) ∧ w'.cell? ⟨(a.add (i * 3)).block, (a.add (i * 3)).off + 1, none⟩ = some (.slice xs[i].pp xs[i].pn xs[i].pc) ∧ w'.cell? ⟨(a.add (i * 3)).block, (a.add (i * 3)).off + 2, none⟩ = some (.int .i64 xs[i].rt) ∧ w'.cell? (a'.add (i * 3)) = some (.string xs'[i].nm) ∧ w'.cell? ⟨(a'.add (i * 3)).block, (a'.add (i * 3)).off + 1, none⟩ = some (.slice xs'[i].pp xs'[i].pn xs'[i].pc) ∧ w'.cell? ⟨(a'.add (i * 3)).block, (a'.add (i * 3)).off + 2, none⟩ = some (.int .i64 xs'[i].rt) ∧ Below wr.heap.size wr w')
            (((try dsimp only); (repeat' apply And.intro) <;> (first | (with_reducible assumption) | (rw [World.cell?_drew]; with_reducible assumption) | (with_reducible apply below_drew; with_reducible assumption))))
            (first
              | ((with_reducible refine (cI _ (by first | (with_reducible assumption) | (with_reducible apply below_drew; with_reducible assumption))).mono ?_); rintro e w' ⟨bt, rfl, hbt, hb'⟩; obtain ⟨r0, r1, r2, r3, r4, r5, r6, r7, r8⟩ := HS.out w' hb'; have HBT := Lib.hid hbt; clear hbt))
          all_goals
            clear cI HS a1 b1 d0 d1 d2 e0 e1 e2 r8
            have PB := P4.2.trans (hb'.mono P4.size)
            have hbb := hb.trans (hb'.mono hb.size)
            have HPB := Lib.hid PB
            have HBB := Lib.hid hbb
            clear PB hbb hb'
            cases bt
            · have HN : Hid (¬ p) := Lib.hid (HN2.out fun e => by
                have h1 := HBT.out.2 (congrArg PExt.ps (map_at e i hlt hlt'))
                cases h1)
              go_wp2_with fail
              go_quiet (fail)
              all_goals (try go_wp2_with fail)
              all_goals go_ret
              all_goals exact tells_no HN.out (by first | exact HPB.out | exact below_drew HPB.out | exact below_drewN HPB.out _)
            · have HPS : Hid (xs[i].ps = xs'[i].ps) := Lib.hid (HBT.out.1 rfl)
              by_cases q1 : xs[i].nm = xs'[i].nm
              · rw [← q1] at r5
                have Q1 := Lib.hid q1
                clear q1
                by_cases q2 : xs[i].rt = xs'[i].rt
                · have g2 : (xs[i].rt != xs'[i].rt) = false := by simp [q2]
                  have HQ : Hid (extD xs[i] = extD xs'[i]) := Lib.hid (by unfold extD; rw [Q1.out, HPS.out, q2])
                  clear q2
                  go_wp2_with fail
                  go_quiet (fail)
                  all_goals (try go_wp2_with fail)
                  all_goals exact ⟨⟨i + 1, by omega, by go_num, by first | exact HBB.out | exact below_drew HBB.out | exact below_drewN HBB.out _, Lib.hid (fun j h1 h2 h3 => by
                    by_cases e : j = i
                    · subst e; exact HQ.out
                    · exact hE.out j h1 h2 (by omega))⟩, by simp [intOf]; omega⟩
                · have g2 : (xs[i].rt != xs'[i].rt) = true := by simpa using q2
                  have HN : Hid (¬ p) := Lib.hid (HN2.out fun e => q2 (congrArg PExt.rt (map_at e i hlt hlt')))
                  clear q2
                  go_wp2_with fail
                  go_quiet (fail)
                  all_goals (try go_wp2_with fail)
                  all_goals go_ret
                  all_goals exact tells_no HN.out (by first | exact HPB.out | exact below_drew HPB.out | exact below_drewN HPB.out _)
              · have q3 : ¬ xs[i].nm.toList = xs'[i].nm.toList := fun e => q1 (str_inj e)
                have HN : Hid (¬ p) := Lib.hid (HN2.out fun e => q1 (congrArg PExt.nm (map_at e i hlt hlt')))
                clear q1
                go_wp2_with fail
                go_quiet (fail)
                all_goals (try go_wp2_with fail)
                all_goals go_ret
                all_goals exact tells_no HN.out (by first | exact HPB.out | exact below_drew HPB.out | exact below_drewN HPB.out _)
        · have EX2 : Hid (xs.map extD = xs'.map extD) := Lib.hid (map_all EX.out (fun j h1 h2 => hE.out j h1 h2 (by omega)))
          obtain rfl : i = xs.length := by omega
          clear hE hlt hi al bl
          go_wp2_with fail
          clear a1 b1
          have SA := Lib.hid A4
          have SB := Lib.hid B4
          have SP := Lib.hid P4
          clear A4 B4 P4 hb
          generalize wr = wz at *
          go_loopw [8] (fun t wr => ∃ i : Nat, i ≤ fs.length ∧ t = .int .i64 i ∧ Below wz.heap.size wz wr ∧ Hid (∀ j (h1 : j < fs.length) (h2 : j < fs'.length), j < i → fnD fs[j] = fnD fs'[j])) (fun t _ => fs.length - (intOf t).toNat)
          case atStart => exact ⟨0, Nat.zero_le _, rfl, Below.refl _ _, Lib.hid (fun i _ _ h => absurd h (Nat.not_lt_zero i))⟩
          case round =>
            obtain ⟨i, hi, rfl, hb, hE⟩ := hrel
            have P4 := SP.out.trans ⟨SP.out.size, hb.mono SP.out.size⟩
            have A4 := SA.out.later hb
            have B4 := SB.out.later hb
            have a2 := A4.get 2 _ rfl
            have b2 := B4.get 2 _ rfl
            have al := A4.1
            have bl := B4.1
            by_cases hlt : i < fs.length
            · have hlt' : i < fs'.length := by have := EF.out; omega
              obtain ⟨a, rfl, ha, c0, c1, c2, c3⟩ := fn_row HF.out i hlt
              obtain ⟨a', rfl, ha', c0', c1', c2', c3'⟩ := fn_row HF'.out i hlt'
              have hBW := P4.2.size
              have la : a.block < wr.heap.size := Nat.lt_of_lt_of_le ha hBW
              have la' : a'.block < wr.heap.size := Nat.lt_of_lt_of_le ha' hBW
              have d0 := (P4.2.cell (p := a.add (i * 4)) (blk_add a _ ha)).trans c0
              have d1 := (P4.2.cell (p := ⟨(a.add (i * 4)).block, (a.add (i * 4)).off + 1, none⟩) (blk_add a _ ha)).trans c1
              have d2 := (P4.2.cell (p := ⟨(a.add (i * 4)).block, (a.add (i * 4)).off + 2, none⟩) (blk_add a _ ha)).trans c2
              have d3 := (P4.2.cell (p := ⟨(a.add (i * 4)).block, (a.add (i * 4)).off + 3, none⟩) (blk_add a _ ha)).trans c3
              have e0 := (P4.2.cell (p := a'.add (i * 4)) (blk_add a' _ ha')).trans c0'
              have e1 := (P4.2.cell (p := ⟨(a'.add (i * 4)).block, (a'.add (i * 4)).off + 1, none⟩) (blk_add a' _ ha')).trans c1'
              have e2 := (P4.2.cell (p := ⟨(a'.add (i * 4)).block, (a'.add (i * 4)).off + 2, none⟩) (blk_add a' _ ha')).trans c2'
              have e3 := (P4.2.cell (p := ⟨(a'.add (i * 4)).block, (a'.add (i * 4)).off + 3, none⟩) (blk_add a' _ ha')).trans c3'
              clear c0 c1 c2 c3 c0' c1' c2' c3'
              have hib : Below wr.heap.size wr wr := Below.refl _ _
              have HL := Lib.hid (HF.out.2.2.2.2 _ (List.getElem_mem hlt))
              have HL' := Lib.hid (HF'.out.2.2.2.2 _ (List.getElem_mem hlt'))
              have cI : ∀ w, Below wr.heap.size wr w → Calls Tryz.prog 43 #[.agg #[.string fs[i].nm, .slice fs[i].pp fs[i].pn fs[i].pc, .int .i64 fs[i].rt, .slice fs[i].bp fs[i].bn fs[i].bc], .agg #[.string fs'[i].nm, .slice fs'[i].pp fs'[i].pn fs'[i].pc, .int .i64 fs'[i].rt, .slice fs'[i].bp fs'[i].bn fs'[i].bc]] w (fun e w' => ∃ b : Bool, e = .returned (.bool b) ∧ (b = true ↔ fnD fs[i] = fnD fs'[i]) ∧ Below wr.heap.size wr w') := fun w hw => by
                have P6 := P4.trans ⟨P4.size, hw.mono P4.size⟩
                exact (Funcs_any w fs[i] fs'[i] (past_lasts lasts_Fn HL.out P6) (past_lasts lasts_Fn HL'.out P6)).mono fun e w' ⟨b, h1, h2, h3⟩ => ⟨b, h1, h2, hw.trans (h3.mono hw.size)⟩
              have HS : Hid (∀ w', Below wr.heap.size wr w' → (w'.cell? ⟨W.heap.size, 2, none⟩ = some (.slice (some a) fs.length fc) ∧ w'.cell? ⟨W.heap.size + 1, 2, none⟩ = some (.slice (some a') fs'.length fc') ∧ w'.cell? (a.add (i * 4)) = some (.string fs[i].nm) ∧ w'.cell? ⟨(a.add (i * 4)).block, (a.add (i * 4)).off + 1, none⟩ = some (.slice fs[i].pp fs[i].pn fs[i].pc) ∧ w'.cell? ⟨(a.add (i * 4)).block, (a.add (i * 4)).off + 2, none⟩ = some (.int .i64 fs[i].rt) ∧ w'.cell? ⟨(a.add (i * 4)).block, (a.add (i * 4)).off + 3, none⟩ = some (.slice fs[i].bp fs[i].bn fs[i].bc) ∧ w'.cell? (a'.add (i * 4)) = some (.string fs'[i].nm) ∧ w'.cell? ⟨(a'.add (i * 4)).block, (a'.add (i * 4)).off + 1, none⟩ = some (.slice fs'[i].pp fs'[i].pn fs'[i].pc) ∧ w'.cell? ⟨(a'.add (i * 4)).block, (a'.add (i * 4)).off + 2, none⟩ = some (.int .i64 fs'[i].rt) ∧ w'.cell? ⟨(a'.add (i * 4)).block, (a'.add (i * 4)).off + 3, none⟩ = some (.slice fs'[i].bp fs'[i].bn fs'[i].bc) ∧ Below wr.heap.size wr w')) := Lib.hid (fun w' hb => ⟨(hb.cell (p := ⟨W.heap.size, 2, none⟩) al).trans a2, (hb.cell (p := ⟨W.heap.size + 1, 2, none⟩) bl).trans b2, (hb.cell (p := a.add (i * 4)) (blk_add a _ la)).trans d0, (hb.cell (p := ⟨(a.add (i * 4)).block, (a.add (i * 4)).off + 1, none⟩) (blk_add a _ la)).trans d1, (hb.cell (p := ⟨(a.add (i * 4)).block, (a.add (i * 4)).off + 2, none⟩) (blk_add a _ la)).trans d2, (hb.cell (p := ⟨(a.add (i * 4)).block, (a.add (i * 4)).off + 3, none⟩) (blk_add a _ la)).trans d3, (hb.cell (p := a'.add (i * 4)) (blk_add a' _ la')).trans e0, (hb.cell (p := ⟨(a'.add (i * 4)).block, (a'.add (i * 4)).off + 1, none⟩) (blk_add a' _ la')).trans e1, (hb.cell (p := ⟨(a'.add (i * 4)).block, (a'.add (i * 4)).off + 2, none⟩) (blk_add a' _ la')).trans e2, (hb.cell (p := ⟨(a'.add (i * 4)).block, (a'.add (i * 4)).off + 3, none⟩) (blk_add a' _ la')).trans e3, hb⟩)
              go_wp2_with fail
              go_region_held3 (fun w' => w'.cell? ⟨W.heap.size, 2, none⟩ = some (.slice (some a) fs.length fc) ∧ w'.cell? ⟨W.heap.size + 1, 2, none⟩ = some (.slice (some a') fs'.length fc') ∧ w'.cell? (a.add (i * 4)) = some (.string fs[i].nm) ∧ w'.cell? ⟨(a.add (i * 4)).block, (a.add (i * 4)).off + 1, none⟩ = some (.slice fs[i].pp fs[i].pn fs[i].pc) ∧ w'.cell? ⟨(a.add (i * 4)).block, (a.add (i * 4)).off + 2, none⟩ = some (.int .i64 fs[i].rt) ∧ w'.cell? ⟨(a.add (i * 4)).block, (a.add (i * 4)).off + 3, none⟩ = some (.slice fs[i].bp fs[i].bn fs[i].bc) ∧ w'.cell? (a'.add (i * 4)) = some (.string fs'[i].nm) ∧ w'.cell? ⟨(a'.add (i * 4)).block, (a'.add (i * 4)).off + 1, none⟩ = some (.slice fs'[i].pp fs'[i].pn fs'[i].pc) ∧ w'.cell? ⟨(a'.add (i * 4)).block, (a'.add (i * 4)).off + 2, none⟩ = some (.int .i64 fs'[i].rt) ∧ w'.cell? ⟨(a'.add (i * 4)).block, (a'.add (i * 4)).off + 3, none⟩ = some (.slice fs'[i].bp fs'[i].bn fs'[i].bc) ∧ Below wr.heap.size wr w')
                (((try dsimp only); (repeat' apply And.intro) <;> (first | (with_reducible assumption) | (rw [World.cell?_drew]; with_reducible assumption) | (with_reducible apply below_drew; with_reducible assumption))))
                (first
                  | ((with_reducible refine (cI _ (by first | (with_reducible assumption) | (with_reducible apply below_drew; with_reducible assumption))).mono ?_); rintro e w' ⟨bt, rfl, hbt, hb'⟩; obtain ⟨r0, r1, r2, r3, r4, r5, r6, r7, r8, r9, r10⟩ := HS.out w' hb'; have HBT := Lib.hid hbt; clear hbt))
              all_goals
                clear cI HS a2 b2 d0 d1 d2 d3 e0 e1 e2 e3 r0 r1 r2 r3 r4 r5 r6 r7 r8 r9 r10
                have PB := P4.2.trans (hb'.mono P4.size)
                have hbb := hb.trans (hb'.mono hb.size)
                have HPB := Lib.hid PB
                have HBB := Lib.hid hbb
                clear PB hbb hb'
                cases bt
                · have HN : Hid (¬ p) := Lib.hid (HN3.out fun e => by
                    have h1 := HBT.out.2 (map_at e i hlt hlt')
                    cases h1)
                  go_wp2_with fail
                  go_ret
                  exact tells_no HN.out (by first | exact HPB.out | exact below_drew HPB.out | exact below_drewN HPB.out _)
                · have HQ : Hid (fnD fs[i] = fnD fs'[i]) := Lib.hid (HBT.out.1 rfl)
                  go_wp2_with fail
                  exact ⟨⟨i + 1, by omega, by go_num, by first | exact HBB.out | exact below_drew HBB.out | exact below_drewN HBB.out _, Lib.hid (fun j h1 h2 h3 => by
                    by_cases e : j = i
                    · subst e; exact HQ.out
                    · exact hE.out j h1 h2 (by omega))⟩, by simp [intOf]; omega⟩
            · have EF2 : Hid (fs.map fnD = fs'.map fnD) := Lib.hid (map_all EF.out (fun j h1 h2 => hE.out j h1 h2 (by omega)))
              obtain rfl : i = fs.length := by omega
              go_wp2_with fail
              go_ret
              exact tells_yes (HY.out EV2.out EX2.out EF2.out) P4.2
/-- What the document's Callee tells: its list lies below B, where the module does. -/
def RToldB (B : Nat) (m : LMod) (n : Int) (W : World) (e : Ending) (w' : World) : Prop :=
  ∃ p k c ps t b, e = .returned (.tuple #[.slice p k c, .int .i64 t, .bool b]) ∧ callD (modD m) n = (b, ps, t) ∧ Below W.heap.size W w' ∧ ListIn intC NoMem B W p k c ps
set_option maxRecDepth 100000 in
set_option maxHeartbeats 1000000 in
theorem rCallee_at (B : Nat) (m : LMod) (n : Int) (hn : -9223372036854775808 ≤ n) (hn' : n ≤ 9223372036854775807) (W : World) (hB : B ≤ W.heap.size) (h : ModIn B W m) :
    Calls Tryz.prog 99 #[.agg (modC m).toArray, .int .i64 n] W (RToldB B m n W) := by
  obtain ⟨vp, vn, vc, vs, xp, xn, xc, xs, fp, fn, fc, fs⟩ := m
  obtain ⟨-, h2, h3⟩ := h
  simp only at h2 h3
  obtain rfl : xn = xs.length := h2.1
  obtain rfl : fn = fs.length := h3.1
  have k2 := h2.2.1
  have k3 := h2.2.2.1
  have k2' := h3.2.1
  have k3' := h3.2.2.1
  unfold maxLen at k3 k3'
  have H2 := Lib.hid h2
  have H3 := Lib.hid h3
  clear h2 h3
  show Calls Tryz.prog 99 #[.agg #[.slice vp vn vc, .slice xp xs.length xc, .slice fp fs.length fc], .int .i64 n] W (RToldB B ⟨vp, vn, vc, vs, xp, xs.length, xc, xs, fp, fs.length, fc, fs⟩ n W)
  have hP := (Past.refl (Nat.le_refl W.heap.size)).alloc (.cells #[.slice vp vn vc, .slice xp xs.length xc, .slice fp fs.length fc] 26)
  have A1 : Box W.heap.size [.slice vp vn vc, .slice xp xs.length xc, .slice fp fs.length fc] (W.alloc (.cells #[.slice vp vn vc, .slice xp xs.length xc, .slice fp fs.length fc] 26)) := Box.new W rfl _ _
  have a1 := A1.get 1 _ rfl
  have a2 := A1.get 2 _ rfl
  go_enter Tryz.func99, Tryz.ntmps99
  by_cases hz : 0 ≤ n
  · obtain ⟨N, rfl⟩ := Int.eq_ofNat_of_zero_le hz
    by_cases hlt : N < fs.length
    · obtain ⟨a, rfl, ha, c0, c1, c2, c3⟩ := fn_row H3.out N hlt
      have ha := Nat.lt_of_lt_of_le ha hB
      have d1 := (hP.2.cell (p := ⟨(a.add (N * 4)).block, (a.add (N * 4)).off + 1, none⟩) (blk_add a _ ha)).trans c1
      have d2 := (hP.2.cell (p := ⟨(a.add (N * 4)).block, (a.add (N * 4)).off + 2, none⟩) (blk_add a _ ha)).trans c2
      go_wp2_with fail
      go_region
      all_goals go_wp2
      all_goals go_ret3
      all_goals exact ⟨_, _, _, _, _, _, rfl, callD_fn _ N hlt, by first | exact hP.2 | exact below_drew hP.2, (H3.out.2.2.2.2 _ (List.getElem_mem hlt)).1⟩
    · go_wp2_with fail
      go_ret3
      exact ⟨_, _, _, _, _, _, rfl, callD_fn_no _ N hlt, hP.2, in_nil _ _⟩
  · obtain ⟨N, rfl⟩ : ∃ N : Nat, n = -1 - (N : Int) := ⟨(-1 - n).toNat, by omega⟩
    have eN : -1 - (-1 - (N : Int)) = N := by omega
    by_cases hlt : N < xs.length
    · obtain ⟨a, rfl, ha, c0, c1, c2⟩ := ext_row H2.out N hlt
      have ha := Nat.lt_of_lt_of_le ha hB
      have d1 := (hP.2.cell (p := ⟨(a.add (N * 3)).block, (a.add (N * 3)).off + 1, none⟩) (blk_add a _ ha)).trans c1
      have d2 := (hP.2.cell (p := ⟨(a.add (N * 3)).block, (a.add (N * 3)).off + 2, none⟩) (blk_add a _ ha)).trans c2
      go_wp2_with fail
      go_region
      all_goals go_wp2
      all_goals go_ret3
      all_goals exact ⟨_, _, _, _, _, _, rfl, callD_ext _ N hlt, by first | exact hP.2 | exact below_drew hP.2, H2.out.2.2.2.2 _ (List.getElem_mem hlt)⟩
    · go_wp2_with fail
      go_ret3
      exact ⟨_, _, _, _, _, _, rfl, callD_ext_no _ N hlt, hP.2, in_nil _ _⟩
theorem Stands.box2 {W w : World} {R : List (Nat × List Value)} {O : List Owned} (h : Stands W R O w) {g : Nat} (hg : g = w.heap.size) (cs : List Value) (t : TypeId) : Stands W ((g, cs) :: R) O (w.alloc (.cells cs.toArray t)) := by
  subst hg; exact h.put cs t
/-- A list of numbers that the call owns. -/
def ownL (a b : Nat) (p : Option Addr) (k c : Nat) (ps : List Int) : Owned := (a, b, fun w => ListOwn 3 1 intC NoOwn a b w p k c ps)
theorem Stands.moreL {W w w' : World} {R : List (Nat × List Value)} {O : List Owned} (h : Stands W R O w) (hp : Past w.heap.size w w') {p : Option Addr} {k c : Nat} {ps : List Int} (hy : ListOwn 3 1 intC NoOwn w.heap.size w'.heap.size w' p k c ps) : Stands W R (ownL w.heap.size w'.heap.size p k c ps :: O) w' :=
  h.moreO hp _ hy (fun _ _ hs hq => ListOwn.stay local_NoOwn hq hs)
theorem Stands.ints {W w : World} {R : List (Nat × List Value)} {O : List Owned} (h : Stands W R O w) {a b : Nat} {p : Option Addr} {k c : Nat} {ps : List Int} (hx : ownL a b p k c ps ∈ O) : ListIn intC NoMem w.heap.size w p k c ps :=
  ListOwn.lies (m := 1) (by decide) (fun _ => rfl) (fun _ _ _ _ _ _ => trivial) (h.own _ hx).1 (h.own _ hx).2.2.1
end Go.Proofs.YtmampoakdjjbiaaGreatDoor
