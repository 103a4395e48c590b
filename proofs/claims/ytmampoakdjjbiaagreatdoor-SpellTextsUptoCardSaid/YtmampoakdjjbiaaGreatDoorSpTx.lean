/- The text of a module, up to any place of it. No program here. -/
import Derived.Test.YtmampoakdjjbiaaGreatDoorSpLen
namespace Go.Proofs.YtmampoakdjjbiaaGreatDoor
set_option linter.unusedVariables false
set_option linter.unusedSimpArgs false

def tV (m : PMod) (i : Nat) : Tx := ((m.vs.take i).map varT).flatten
def tX (m : PMod) (i : Nat) : Tx := tV m m.vs.length ++ ((m.xs.take i).map extT).flatten
def tF (m : PMod) (i : Nat) : Tx := tX m m.xs.length ++ ((m.fs.take i).map (fnT m)).flatten
def tB (m : PMod) (i : Nat) (f : PFn) (b : Nat) : Tx := tF m i ++ [102, 117, 110, 99, 32] ++ headT f.nm f.ps f.rt ++ ((f.bs.take b).mapIdx (blkT m)).flatten
def tC (m : PMod) (i : Nat) (f : PFn) (b : Nat) (c : List PIns) (k : Nat) : Tx := tB m i f b ++ blockT b ++ [58, 10] ++ ((c.take k).map (lineT m)).flatten
theorem tV_step (m : PMod) (i : Nat) (h : i < m.vs.length) : tV m (i + 1) = tV m i ++ varT m.vs[i] := flatT_step _ _ _ h
theorem tX_zero (m : PMod) : tX m 0 = tV m m.vs.length := by unfold tX; simp
theorem tX_step (m : PMod) (i : Nat) (h : i < m.xs.length) : tX m (i + 1) = tX m i ++ extT m.xs[i] := by unfold tX; rw [flatT_step _ _ _ h, List.append_assoc]
theorem tF_zero (m : PMod) : tF m 0 = tX m m.xs.length := by unfold tF; simp
theorem tF_step (m : PMod) (i : Nat) (h : i < m.fs.length) : tF m (i + 1) = tF m i ++ fnT m m.fs[i] := by unfold tF; rw [flatT_step _ _ _ h, List.append_assoc]
theorem tF_all (m : PMod) : tF m m.fs.length = modT m := by unfold tF tX tV modT; simp
theorem mapIdx_step {α β : Type} (g : Nat → α → β) (l : List α) (b : Nat) (h : b < l.length) : (l.take (b + 1)).mapIdx g = (l.take b).mapIdx g ++ [g b l[b]] := by
  rw [List.take_succ_eq_append_getElem h, List.mapIdx_concat, List.length_take, Nat.min_eq_left (by omega)]
theorem tB_zero (m : PMod) (i : Nat) (f : PFn) : tB m i f 0 = tF m i ++ [102, 117, 110, 99, 32] ++ headT f.nm f.ps f.rt := by unfold tB; simp
theorem tB_step (m : PMod) (i : Nat) (f : PFn) (b : Nat) (h : b < f.bs.length) : tB m i f (b + 1) = tC m i f b f.bs[b] f.bs[b].length := by
  unfold tB
  rw [mapIdx_step _ _ _ h]
  unfold tC tB blkT
  simp
theorem tF_fn (m : PMod) (i : Nat) (h : i < m.fs.length) : tF m (i + 1) = tB m i m.fs[i] m.fs[i].bs.length ++ [101, 110, 100, 10] := by
  rw [tF_step m i h]
  unfold fnT tB
  simp
theorem tC_zero (m : PMod) (i : Nat) (f : PFn) (b : Nat) (c : List PIns) : tC m i f b c 0 = tB m i f b ++ blockT b ++ [58, 10] := by unfold tC; simp
theorem tC_step (m : PMod) (i : Nat) (f : PFn) (b : Nat) (c : List PIns) (k : Nat) (h : k < c.length) : tC m i f b c (k + 1) = tC m i f b c k ++ lineT m c[k] := by unfold tC; rw [flatT_step _ _ _ h]; simp only [List.append_assoc]
theorem flat_take_le {α : Type} (f : α → Tx) (l : List α) (i : Nat) : ((l.take i).map f).flatten.length ≤ (l.map f).flatten.length := by
  conv => rhs; rw [← List.take_append_drop i l, List.map_append, List.flatten_append, List.length_append]
  omega
theorem mapIdx_take_le (g : Nat → List PIns → Tx) (l : List (List PIns)) (b : Nat) : ((l.take b).mapIdx g).flatten.length ≤ (l.mapIdx g).flatten.length := by
  conv => rhs; rw [← List.take_append_drop b l, List.mapIdx_append, List.flatten_append, List.length_append]
  omega
theorem tF_le (m : PMod) (i : Nat) : (tF m i).length ≤ (modT m).length := by
  rw [← tF_all]
  unfold tF
  have := flat_take_le (fnT m) m.fs i
  rw [List.length_append, List.length_append, List.take_length]
  omega
theorem tX_le (m : PMod) (i : Nat) : (tX m i).length ≤ (modT m).length := by
  refine Nat.le_trans ?_ (tF_le m 0)
  rw [tF_zero]
  unfold tX
  have := flat_take_le extT m.xs i
  rw [List.length_append, List.length_append, List.take_length]
  omega
theorem tV_le (m : PMod) (i : Nat) : (tV m i).length ≤ (modT m).length := by
  refine Nat.le_trans ?_ (tX_le m 0)
  rw [tX_zero]
  unfold tV
  have := flat_take_le varT m.vs i
  rw [List.take_length]
  exact this
theorem tB_le (m : PMod) (i : Nat) (h : i < m.fs.length) (b : Nat) : (tB m i m.fs[i] b).length + 4 ≤ (modT m).length := by
  refine Nat.le_trans ?_ (tF_le m (i + 1))
  rw [tF_fn m i h]
  unfold tB
  have := mapIdx_take_le (blkT m) m.fs[i].bs b
  simp only [List.length_append, List.length_cons, List.length_nil, List.take_length]
  omega
theorem tC_le (m : PMod) (i : Nat) (h : i < m.fs.length) (b : Nat) (hb : b < m.fs[i].bs.length) (k : Nat) : (tC m i m.fs[i] b m.fs[i].bs[b] k).length ≤ (modT m).length := by
  have h1 := tB_le m i h (b + 1)
  rw [tB_step m i _ b hb] at h1
  refine Nat.le_trans ?_ (Nat.le_trans (Nat.le_add_right _ 4) h1)
  unfold tC
  have := flat_take_le (lineT m) m.fs[i].bs[b] k
  simp only [List.length_append, List.take_length]
  omega
end Go.Proofs.YtmampoakdjjbiaaGreatDoor
