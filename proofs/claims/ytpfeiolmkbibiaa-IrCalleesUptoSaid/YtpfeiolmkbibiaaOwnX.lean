/- Package ir: Callee, the document's and the program's. -/
import Derived.Test.YtpfeiolmkbibiaaOwnT
import Derived.Test.YtpfeiolmkbibiaaOwnU
import Derived.Test.YtpfeiolmkbibiaaOwnW
import Derived.OwnWalk
namespace Go.Proofs.Ytpfeiolmkbibiaa
open Go.RowKit Go.Maps
set_option linter.unusedVariables false
set_option linter.unusedSimpArgs false
/-- The signature of callee n: whether there is one, its parameters' types, what it returns. -/
def callD (m : PMod) (n : Int) : Bool × List Int × Int :=
  if 0 ≤ n then (match m.fs[n.toNat]? with | some f => (true, f.ps, f.rt) | none => (false, [], 0))
  else (match m.xs[(-1 - n).toNat]? with | some x => (true, x.ps, x.rt) | none => (false, [], 0))
theorem in_nil {α : Type} {cel : α → List Value} {E : Nat → World → α → Prop} (B : Nat) (w : World) : ListIn cel E B w none 0 0 [] := by
  refine ⟨rfl, Nat.le_refl _, by unfold maxLen; omega, ?_, by simp⟩
  intro j u hj; simp at hj
theorem callD_fn (m : LMod) (N : Nat) (h : N < m.fs.length) : callD (modD m) (N : Int) = (true, m.fs[N].ps, m.fs[N].rt) := by
  unfold callD modD
  rw [if_pos (by omega)]
  simp [List.getElem?_map, List.getElem?_eq_getElem h, fnD]
theorem callD_fn_no (m : LMod) (N : Nat) (h : ¬ N < m.fs.length) : callD (modD m) (N : Int) = (false, [], 0) := by
  unfold callD modD
  rw [if_pos (by omega)]
  simp [List.getElem?_map, List.getElem?_eq_none (Nat.le_of_not_lt h)]
theorem callD_ext (m : LMod) (N : Nat) (h : N < m.xs.length) : callD (modD m) (-1 - (N : Int)) = (true, m.xs[N].ps, m.xs[N].rt) := by
  unfold callD modD
  rw [if_neg (by omega), show (-1 - (-1 - (N : Int))).toNat = N by omega]
  simp [List.getElem?_map, List.getElem?_eq_getElem h, extD]
theorem callD_ext_no (m : LMod) (N : Nat) (h : ¬ N < m.xs.length) : callD (modD m) (-1 - (N : Int)) = (false, [], 0) := by
  unfold callD modD
  rw [if_neg (by omega), show (-1 - (-1 - (N : Int))).toNat = N by omega]
  simp [List.getElem?_map, List.getElem?_eq_none (Nat.le_of_not_lt h)]
/-- What the document's Callee tells: the list lies where the module's lies. -/
def RTold (m : LMod) (n : Int) (W : World) (e : Ending) (w' : World) : Prop :=
  ∃ p k c ps t b, e = .returned (.tuple #[.slice p k c, .int .i64 t, .bool b]) ∧ callD (modD m) n = (b, ps, t) ∧ Below W.heap.size W w' ∧ ListIn intC NoMem W.heap.size W p k c ps
set_option maxRecDepth 100000 in
set_option maxHeartbeats 1000000 in
theorem rCallee_any (m : LMod) (n : Int) (hn : -9223372036854775808 ≤ n) (hn' : n ≤ 9223372036854775807) (W : World) (h : ModIn W.heap.size W m) :
    Calls Try.prog 41 #[.agg (modC m).toArray, .int .i64 n] W (RTold m n W) := by
  obtain ⟨vp, vn, vc, vs, xp, xn, xc, xs, fp, fn, fc, fs⟩ := m
  obtain ⟨-, h2, h3⟩ := h
  simp only at h2 h3
  obtain rfl : xn = xs.length := h2.1
  obtain rfl : fn = fs.length := h3.1
  have k2 := h2.2.1
  have k3 := h2.2.2.1
  have k2' := h3.2.1
  have k3' := h3.2.2.1
  unfold maxLen at k3 k3'
  have H2 := Lib.hid h2
  have H3 := Lib.hid h3
  clear h2 h3
  show Calls Try.prog 41 #[.agg #[.slice vp vn vc, .slice xp xs.length xc, .slice fp fs.length fc], .int .i64 n] W (RTold ⟨vp, vn, vc, vs, xp, xs.length, xc, xs, fp, fs.length, fc, fs⟩ n W)
  have hP := (Past.refl (Nat.le_refl W.heap.size)).alloc (.cells #[.slice vp vn vc, .slice xp xs.length xc, .slice fp fs.length fc] 34)
  have A1 : Box W.heap.size [.slice vp vn vc, .slice xp xs.length xc, .slice fp fs.length fc] (W.alloc (.cells #[.slice vp vn vc, .slice xp xs.length xc, .slice fp fs.length fc] 34)) := Box.new W rfl _ _
  have a1 := A1.get 1 _ rfl
  have a2 := A1.get 2 _ rfl
  go_enter Try.func41, Try.ntmps41
  by_cases hz : 0 ≤ n
  · obtain ⟨N, rfl⟩ := Int.eq_ofNat_of_zero_le hz
    by_cases hlt : N < fs.length
    · obtain ⟨a, rfl, ha, c0, c1, c2, c3⟩ := fn_row H3.out N hlt
      have d1 := (hP.2.cell (p := ⟨(a.add (N * 4)).block, (a.add (N * 4)).off + 1, none⟩) (blk_add a _ ha)).trans c1
      have d2 := (hP.2.cell (p := ⟨(a.add (N * 4)).block, (a.add (N * 4)).off + 2, none⟩) (blk_add a _ ha)).trans c2
      go_wp2_with fail
      go_region
      all_goals go_wp2
      all_goals go_ret3
      all_goals exact ⟨_, _, _, _, _, _, rfl, callD_fn _ N hlt, by first | exact hP.2 | exact below_drew hP.2, (H3.out.2.2.2.2 _ (List.getElem_mem hlt)).1⟩
    · go_wp2_with fail
      go_ret3
      exact ⟨_, _, _, _, _, _, rfl, callD_fn_no _ N hlt, hP.2, in_nil _ _⟩
  · obtain ⟨N, rfl⟩ : ∃ N : Nat, n = -1 - (N : Int) := ⟨(-1 - n).toNat, by omega⟩
    have eN : -1 - (-1 - (N : Int)) = N := by omega
    by_cases hlt : N < xs.length
    · obtain ⟨a, rfl, ha, c0, c1, c2⟩ := ext_row H2.out N hlt
      have d1 := (hP.2.cell (p := ⟨(a.add (N * 3)).block, (a.add (N * 3)).off + 1, none⟩) (blk_add a _ ha)).trans c1
      have d2 := (hP.2.cell (p := ⟨(a.add (N * 3)).block, (a.add (N * 3)).off + 2, none⟩) (blk_add a _ ha)).trans c2
      go_wp2_with fail
      go_region
      all_goals go_wp2
      all_goals go_ret3
      all_goals exact ⟨_, _, _, _, _, _, rfl, callD_ext _ N hlt, by first | exact hP.2 | exact below_drew hP.2, H2.out.2.2.2.2 _ (List.getElem_mem hlt)⟩
    · go_wp2_with fail
      go_ret3
      exact ⟨_, _, _, _, _, _, rfl, callD_ext_no _ N hlt, hP.2, in_nil _ _⟩
end Go.Proofs.Ytpfeiolmkbibiaa
