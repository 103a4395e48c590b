/- slices.Grow of nothing and slices.Concat of two lists of strings. -/
import Derived.Test.YtmampoakdjjbiaaGreatDoorSpKc
import Derived.Lib.AppendZerosOnto
import Derived.Lib.SliceRun
import Derived.Laws.AppendOwnNone
namespace Go.Proofs.YtmampoakdjjbiaaGreatDoor
open Go.RowKit Go.Maps Go.Lib
set_option linter.unusedVariables false
set_option linter.unusedSimpArgs false

set_option maxHeartbeats 4000000 in
set_option maxRecDepth 100000 in
theorem Grow_none (n : Nat) (hn : n ≤ 2097152) (W : World) : Calls Tryz.prog 135 #[.slice none 0 0, .int .i64 (n : Int)] W (OwnS [] W) := by
  by_cases h0 : n = 0
  · subst h0
    go_enter Tryz.func135, Tryz.ntmps135
    go_wp2_with fail
    go_ret
    exact ⟨_, rfl, OS.nil _ _, Below.refl _ _⟩
  obtain ⟨i0, hi0, hz0, hs1, hby⟩ := info_parts infoStr
  have d0 : decide ((0 : Int) < (n : Int)) = true := by simp; omega
  have d0' : decide (0 < n) = true := by simp; omega
  have hold : (Builtin.firstCells i0.size 0 (.slice none 0 0)).run Tryz.prog W.drew = .ok ([] : List Value).toArray W.drew := run_firstCells_none W.drew i0.size 0 0 0
  have hfit := growslice_fits (bytes := i0.bytes) (by omega : 0 < 0 + n) (by rw [hby]; omega)
  have hrz : ∀ ty, (Builtin.append_ #[95, 3] ty #[.slice none 0 0, .int .i64 (n : Int)]).run Tryz.prog W =
      .ok (.slice (some ⟨W.heap.size, 0, none⟩) (0 + n) (grownCap W (0 + n) 0 9)) (W.drew.alloc (.cells (([] : List Value).toArray ++ Builtin.zeroCells (Value.string ⟨#[]⟩).cells n ++ Builtin.zeroCells (Value.string ⟨#[]⟩).cells (grownCap W (0 + n) 0 9 - (0 + n))) 9)) := fun ty =>
    Lib.run_append_grow_zeros W 95 3 ty 9 i0 (.string ⟨#[]⟩) .i64 .i64 Tryz.underlying95 Tryz.underlying3 hi0 hz0 none 0 0 [] hold n (by omega) (by rw [hs1]; decide) (by omega) (by omega)
      (by rw [hby]; omega) hfit
  have hGn : 0 + n ≤ grownCap W (0 + n) 0 9 := grownCap_ge W _ _ _
  have hG63 : grownCap W (0 + n) 0 9 ≤ maxLen := grownCap_le_maxLen W (0 + n) 0 9 (by unfold maxLen; omega)
  obtain ⟨G, hG⟩ : ∃ G, grownCap W (0 + n) 0 9 = G := ⟨_, rfl⟩
  rw [hG] at hGn hG63
  simp only [hG] at hrz
  have hos : OS (W.drew.alloc (.cells (([] : List Value).toArray ++ Builtin.zeroCells (Value.string ⟨#[]⟩).cells n ++ Builtin.zeroCells (Value.string ⟨#[]⟩).cells (G - (0 + n))) 9)) W.heap.size (.slice (some ⟨W.heap.size, 0, none⟩) 0 G) [] := by
    refine ⟨rfl, .inr ⟨W.heap.size, G, _, rfl, Nat.le_refl _, heap_new W.drew _, Nat.zero_le _, hG63, ?_, by simp⟩⟩
    simp [Builtin.zeroCells, Value.cells]
    omega
  have hbl : Below W.heap.size W (W.drew.alloc (.cells (([] : List Value).toArray ++ Builtin.zeroCells (Value.string ⟨#[]⟩).cells n ++ Builtin.zeroCells (Value.string ⟨#[]⟩).cells (G - (0 + n))) 9)) := (below_drew (Below.refl W.heap.size W)).alloc (Nat.le_refl _) _
  obtain ⟨w1, e1⟩ : ∃ w1, (W.drew.alloc (.cells (([] : List Value).toArray ++ Builtin.zeroCells (Value.string ⟨#[]⟩).cells n ++ Builtin.zeroCells (Value.string ⟨#[]⟩).cells (G - (0 + n))) 9)) = w1 := ⟨_, rfl⟩
  simp only [e1] at hrz hos hbl
  have HO := Lib.hid (And.intro hos hbl)
  unfold maxLen at hG63
  have hG2 : G ≤ 9223372036854775807 := by omega
  have hGn2 : n ≤ G := by omega
  clear hold hfit hG hos hbl e1 hG63 hGn h0
  go_enter Tryz.func135, Tryz.ntmps135
  go_wp2_with (at_builtin; refine Lib.wpList_append_run _ rfl _ _ _ _ rfl _ _ rfl rfl _ _ (hrz _) ?_)
  all_goals (go_ret; exact ⟨_, rfl, HO.out.1, HO.out.2⟩)
end Go.Proofs.YtmampoakdjjbiaaGreatDoor
