/- Package ir: the program's Callee. -/
import Derived.Test.YtpfeiolmkbibiaaOwnX
namespace Go.Proofs.Ytpfeiolmkbibiaa
open Go.RowKit Go.Maps
set_option linter.unusedVariables false
set_option linter.unusedSimpArgs false
/-- What the program's Callee tells: the list is its own. -/
def PTold (m : LMod) (n : Int) (W : World) (e : Ending) (w' : World) : Prop :=
  ∃ p k c ps t b, e = .returned (.tuple #[.slice p k c, .int .i64 t, .bool b]) ∧ callD (modD m) n = (b, ps, t) ∧ Past W.heap.size W w' ∧ ListOwn 3 1 intC NoOwn W.heap.size w'.heap.size w' p k c ps
theorem fnZ_le {m : LMod} (N : Nat) (h : N < m.fs.length) (hq : modZ (modD m) ≤ 1048576) : m.fs[N].ps.length ≤ 1048576 := by
  have h1 := fnsZ_mem (List.mem_map_of_mem (f := fnD) (List.getElem_mem h))
  have h2 : m.vs.length + ((m.xs.map extD).map extZ).sum + ((m.fs.map fnD).map fnZ).sum ≤ 1048576 := hq
  have h3 : m.fs[N].ps.length ≤ fnZ (fnD m.fs[N]) := by unfold fnZ fnD; simp only; omega
  omega
theorem extZ_le {m : LMod} (N : Nat) (h : N < m.xs.length) (hq : modZ (modD m) ≤ 1048576) : m.xs[N].ps.length ≤ 1048576 := by
  have h1 := extsZ_mem (List.mem_map_of_mem (f := extD) (List.getElem_mem h))
  have h2 : m.vs.length + ((m.xs.map extD).map extZ).sum + ((m.fs.map fnD).map fnZ).sum ≤ 1048576 := hq
  have h3 : m.xs[N].ps.length ≤ extZ (extD m.xs[N]) := by unfold extZ extD; simp only; omega
  omega
set_option maxRecDepth 100000 in
set_option maxHeartbeats 1000000 in
theorem Callee_own (m : LMod) (n : Int) (hn : -9223372036854775808 ≤ n) (hn' : n ≤ 9223372036854775807) (hq : modZ (modD m) ≤ 1048576) (W : World) (h : ModIn W.heap.size W m) :
    Calls Try.prog 40 #[.agg (modC m).toArray, .int .i64 n] W (PTold m n W) := by
  obtain ⟨vp, vn, vc, vs, xp, xn, xc, xs, fp, fn, fc, fs⟩ := m
  obtain ⟨-, h2, h3⟩ := h
  simp only at h2 h3
  obtain rfl : xn = xs.length := h2.1
  obtain rfl : fn = fs.length := h3.1
  have k2 := h2.2.1
  have k3 := h2.2.2.1
  have k2' := h3.2.1
  have k3' := h3.2.2.1
  unfold maxLen at k3 k3'
  have H2 := Lib.hid h2
  have H3 := Lib.hid h3
  clear h2 h3
  show Calls Try.prog 40 #[.agg #[.slice vp vn vc, .slice xp xs.length xc, .slice fp fs.length fc], .int .i64 n] W (PTold ⟨vp, vn, vc, vs, xp, xs.length, xc, xs, fp, fs.length, fc, fs⟩ n W)
  have hP := (Past.refl (Nat.le_refl W.heap.size)).alloc (.cells #[.slice vp vn vc, .slice xp xs.length xc, .slice fp fs.length fc] 34)
  have A1 : Box W.heap.size [.slice vp vn vc, .slice xp xs.length xc, .slice fp fs.length fc] (W.alloc (.cells #[.slice vp vn vc, .slice xp xs.length xc, .slice fp fs.length fc] 34)) := Box.new W rfl _ _
  have a1 := A1.get 1 _ rfl
  have a2 := A1.get 2 _ rfl
  go_enter Try.func40, Try.ntmps40
  by_cases hz : 0 ≤ n
  · obtain ⟨N, rfl⟩ := Int.eq_ofNat_of_zero_le hz
    by_cases hlt : N < fs.length
    · obtain ⟨a, rfl, ha, c0, c1, c2, c3⟩ := fn_row H3.out N hlt
      have d0 := (hP.2.cell (p := a.add (N * 4)) (blk_add a _ ha)).trans c0
      have d3 := (hP.2.cell (p := ⟨(a.add (N * 4)).block, (a.add (N * 4)).off + 3, none⟩) (blk_add a _ ha)).trans c3
      have d1 := (hP.2.cell (p := ⟨(a.add (N * 4)).block, (a.add (N * 4)).off + 1, none⟩) (blk_add a _ ha)).trans c1
      have d2 := (hP.2.cell (p := ⟨(a.add (N * 4)).block, (a.add (N * 4)).off + 2, none⟩) (blk_add a _ ha)).trans c2
      have HL := Lib.hid ((H3.out.2.2.2.2 _ (List.getElem_mem hlt)).1)
      have hzl : fs[N].ps.length ≤ 1048576 := by have := fnZ_le N hlt hq; omega
      have hP2 := hP.alloc (.cells #[.string fs[N].nm, .slice fs[N].pp fs[N].pn fs[N].pc, .int .i64 fs[N].rt, .slice fs[N].bp fs[N].bn fs[N].bc] 41)
      have F2 : Box (W.heap.size + 1) [.string fs[N].nm, .slice fs[N].pp fs[N].pn fs[N].pc, .int .i64 fs[N].rt, .slice fs[N].bp fs[N].bn fs[N].bc] ((W.alloc (.cells #[.slice vp vn vc, .slice xp xs.length xc, .slice (some a) fs.length fc] 34)).alloc (.cells #[.string fs[N].nm, .slice fs[N].pp fs[N].pn fs[N].pc, .int .i64 fs[N].rt, .slice fs[N].bp fs[N].bn fs[N].bc] 41)) := Box.new _ (by simp) _ _
      have cI : ∀ w, (w.cell? ⟨W.heap.size + 1, 1, none⟩ = some (.slice fs[N].pp fs[N].pn fs[N].pc) ∧ w.cell? ⟨W.heap.size + 1, 2, none⟩ = some (.int .i64 fs[N].rt) ∧ W.heap.size + 1 < w.heap.size ∧ Below W.heap.size W w) → Calls Try.prog 64 #[.slice fs[N].pp fs[N].pn fs[N].pc] w fun e w' => ∃ p' c', e = .returned (.slice p' fs[N].pn c') ∧ w'.cell? ⟨W.heap.size + 1, 1, none⟩ = some (.slice fs[N].pp fs[N].pn fs[N].pc) ∧ w'.cell? ⟨W.heap.size + 1, 2, none⟩ = some (.int .i64 fs[N].rt) ∧ W.heap.size + 1 < w'.heap.size ∧ Below W.heap.size W w' ∧ ListOwn 3 1 intC NoOwn W.heap.size w'.heap.size w' p' fs[N].pn c' fs[N].ps := by
        rintro w ⟨q1, q2, q3, q4⟩
        refine (copyInts_own w _ _ _ fs[N].ps (HL.out.lasts lasts_NoMem q4 q4.size) hzl).mono ?_
        rintro e w' ⟨p', c', rfl, hp, ho⟩
        obtain ⟨o1, o2, o3, o4⟩ := ho
        exact ⟨p', c', rfl, (hp.2.cell (p := ⟨W.heap.size + 1, 1, none⟩) q3).trans q1, (hp.2.cell (p := ⟨W.heap.size + 1, 2, none⟩) q3).trans q2, Nat.lt_of_lt_of_le q3 hp.2.size, q4.trans (hp.2.mono q4.size), o1, o2.mono q4.size, o3, o4.down q4.size⟩
      have f1 := F2.get 1 _ rfl
      have f2 := F2.get 2 _ rfl
      have hb2 := hP2.2
      have HH := Lib.hid hlt
      clear F2 hzl hP2
      go_wp2_with fail
      go_region_held3 (fun w' => w'.cell? ⟨W.heap.size + 1, 1, none⟩ = some (.slice fs[N].pp fs[N].pn fs[N].pc) ∧ w'.cell? ⟨W.heap.size + 1, 2, none⟩ = some (.int .i64 fs[N].rt) ∧ W.heap.size + 1 < w'.heap.size ∧ Below W.heap.size W w')
        (((try dsimp only); (repeat' apply And.intro) <;> (first | (with_reducible assumption) | exact f1 | exact f2 | exact k0 | exact k1 | assumption | (rw [World.cell?_drew]; with_reducible assumption) | (with_reducible apply below_drew; with_reducible assumption) | (simp <;> omega))))
        (first
          | ((refine (cI _ ?pre).mono ?_); (case pre => ((repeat' apply And.intro) <;> (first | (with_reducible assumption) | (rw [World.cell?_drew]; with_reducible assumption) | (with_reducible apply below_drew; with_reducible assumption) | exact f1 | exact f2 | (simp <;> omega)))); rintro e w' ⟨p', c', rfl, k0, k1, k2, k3, k4⟩))
      all_goals (try go_wp2)
      all_goals go_ret3
      all_goals first
        | exact ⟨_, _, _, _, _, _, rfl, callD_fn _ N HH.out, ⟨Nat.le_refl _, k3⟩, k4⟩
        | exact ⟨_, _, _, _, _, _, rfl, callD_fn _ N HH.out, ⟨Nat.le_refl _, below_drew k3⟩, k4.stay local_NoOwn (fun _ _ _ => rfl)⟩
    · go_wp2_with fail
      go_ret3
      exact ⟨_, _, _, _, _, _, rfl, callD_fn_no _ N hlt, hP, own_nil _ hP.size⟩
  · obtain ⟨N, rfl⟩ : ∃ N : Nat, n = -1 - (N : Int) := ⟨(-1 - n).toNat, by omega⟩
    have eN : -1 - (-1 - (N : Int)) = N := by omega
    by_cases hlt : N < xs.length
    · obtain ⟨a, rfl, ha, c0, c1, c2⟩ := ext_row H2.out N hlt
      have d0 := (hP.2.cell (p := a.add (N * 3)) (blk_add a _ ha)).trans c0
      have d1 := (hP.2.cell (p := ⟨(a.add (N * 3)).block, (a.add (N * 3)).off + 1, none⟩) (blk_add a _ ha)).trans c1
      have d2 := (hP.2.cell (p := ⟨(a.add (N * 3)).block, (a.add (N * 3)).off + 2, none⟩) (blk_add a _ ha)).trans c2
      have HL := Lib.hid (H2.out.2.2.2.2 _ (List.getElem_mem hlt))
      have hzl : xs[N].ps.length ≤ 1048576 := by have := extZ_le N hlt hq; omega
      have hP2 := hP.alloc (.cells #[.string xs[N].nm, .slice xs[N].pp xs[N].pn xs[N].pc, .int .i64 xs[N].rt] 70)
      have F2 : Box (W.heap.size + 1) [.string xs[N].nm, .slice xs[N].pp xs[N].pn xs[N].pc, .int .i64 xs[N].rt] ((W.alloc (.cells #[.slice vp vn vc, .slice (some a) xs.length xc, .slice fp fs.length fc] 34)).alloc (.cells #[.string xs[N].nm, .slice xs[N].pp xs[N].pn xs[N].pc, .int .i64 xs[N].rt] 70)) := Box.new _ (by simp) _ _
      have cI : ∀ w, (w.cell? ⟨W.heap.size + 1, 1, none⟩ = some (.slice xs[N].pp xs[N].pn xs[N].pc) ∧ w.cell? ⟨W.heap.size + 1, 2, none⟩ = some (.int .i64 xs[N].rt) ∧ W.heap.size + 1 < w.heap.size ∧ Below W.heap.size W w) → Calls Try.prog 64 #[.slice xs[N].pp xs[N].pn xs[N].pc] w fun e w' => ∃ p' c', e = .returned (.slice p' xs[N].pn c') ∧ w'.cell? ⟨W.heap.size + 1, 1, none⟩ = some (.slice xs[N].pp xs[N].pn xs[N].pc) ∧ w'.cell? ⟨W.heap.size + 1, 2, none⟩ = some (.int .i64 xs[N].rt) ∧ W.heap.size + 1 < w'.heap.size ∧ Below W.heap.size W w' ∧ ListOwn 3 1 intC NoOwn W.heap.size w'.heap.size w' p' xs[N].pn c' xs[N].ps := by
        rintro w ⟨q1, q2, q3, q4⟩
        refine (copyInts_own w _ _ _ xs[N].ps (HL.out.lasts lasts_NoMem q4 q4.size) hzl).mono ?_
        rintro e w' ⟨p', c', rfl, hp, ho⟩
        obtain ⟨o1, o2, o3, o4⟩ := ho
        exact ⟨p', c', rfl, (hp.2.cell (p := ⟨W.heap.size + 1, 1, none⟩) q3).trans q1, (hp.2.cell (p := ⟨W.heap.size + 1, 2, none⟩) q3).trans q2, Nat.lt_of_lt_of_le q3 hp.2.size, q4.trans (hp.2.mono q4.size), o1, o2.mono q4.size, o3, o4.down q4.size⟩
      have f1 := F2.get 1 _ rfl
      have f2 := F2.get 2 _ rfl
      have hb2 := hP2.2
      have HH := Lib.hid hlt
      clear F2 hzl hP2
      go_wp2_with fail
      go_region_held3 (fun w' => w'.cell? ⟨W.heap.size + 1, 1, none⟩ = some (.slice xs[N].pp xs[N].pn xs[N].pc) ∧ w'.cell? ⟨W.heap.size + 1, 2, none⟩ = some (.int .i64 xs[N].rt) ∧ W.heap.size + 1 < w'.heap.size ∧ Below W.heap.size W w')
        (((try dsimp only); (repeat' apply And.intro) <;> (first | (with_reducible assumption) | exact f1 | exact f2 | exact k0 | exact k1 | assumption | (rw [World.cell?_drew]; with_reducible assumption) | (with_reducible apply below_drew; with_reducible assumption) | (simp <;> omega))))
        (first
          | ((refine (cI _ ?pre).mono ?_); (case pre => ((repeat' apply And.intro) <;> (first | (with_reducible assumption) | (rw [World.cell?_drew]; with_reducible assumption) | (with_reducible apply below_drew; with_reducible assumption) | exact f1 | exact f2 | (simp <;> omega)))); rintro e w' ⟨p', c', rfl, k0, k1, k2, k3, k4⟩))
      all_goals (try go_wp2)
      all_goals go_ret3
      all_goals first
        | exact ⟨_, _, _, _, _, _, rfl, callD_ext _ N HH.out, ⟨Nat.le_refl _, k3⟩, k4⟩
        | exact ⟨_, _, _, _, _, _, rfl, callD_ext _ N HH.out, ⟨Nat.le_refl _, below_drew k3⟩, k4.stay local_NoOwn (fun _ _ _ => rfl)⟩
    · go_wp2_with fail
      go_ret3
      exact ⟨_, _, _, _, _, _, rfl, callD_ext_no _ N hlt, hP, own_nil _ hP.size⟩
end Go.Proofs.Ytpfeiolmkbibiaa
