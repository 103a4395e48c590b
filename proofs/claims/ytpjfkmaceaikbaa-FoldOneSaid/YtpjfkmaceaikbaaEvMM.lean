/- Package eval: an address moved. -/
import Derived.Test.YtpjfkmaceaikbaaEvBM
namespace Go.Proofs.Ytpjfkmaceaikbaa
open Go.RowKit Go.Maps
set_option linter.unusedVariables false
set_option linter.unusedSimpArgs false
set_option maxRecDepth 100000
set_option maxHeartbeats 1000000


theorem moved_n (c u y : Int) (W : World) :
    Calls Try.prog 45 #[.agg #[.int .i64 2, .int .u64 0, .int .i64 c, .int .i64 u], .agg #[.int .i64 1, .int .u64 y, .int .i64 0, .int .i64 0]] W fun e w' => e = .returned (.agg #[.int .i64 2, .int .u64 0, .int .i64 c, .int .i64 (wrap64 (u + sgn 64 y))]) ∧ Below W.heap.size W w' := by
  have cP : ∀ (p q r s : Int) W, Calls Try.prog 58 #[.agg #[.int .i64 p, .int .u64 q, .int .i64 r, .int .i64 s]] W fun e w' => e = .returned (.bool (p == 0)) ∧ Below W.heap.size W w' := fun p q r s W => isPoison_any ⟨p, q, r, s⟩ W
  have cA : ∀ (p q r s : Int) W, Calls Try.prog 60 #[.agg #[.int .i64 p, .int .u64 q, .int .i64 r, .int .i64 s]] W fun e w' => e = .returned (.bool (p == 3)) ∧ Below W.heap.size W w' := fun p q r s W => isAny_any ⟨p, q, r, s⟩ W
  have cS : ∀ W, Calls Try.prog 63 #[.int .i64 64, .int .u64 y] W fun e w' => e = .returned (.int .i64 (sgn 64 y)) ∧ W = w' := fun W => Signed_any 64 y W
  obtain ⟨s, es⟩ : ∃ s, sgn 64 y = s := ⟨_, rfl⟩
  rw [es] at cS ⊢
  clear es
  have F := ((((Fr.start W)).push (g := W.heap.size) (by simp) [.int .i64 2, .int .u64 0, .int .i64 c, .int .i64 u] 35).push (g := W.heap.size + 1) (by simp) [.int .i64 1, .int .u64 y, .int .i64 0, .int .i64 0] 35).push (g := W.heap.size + 1 + 1) (by simp) [.int .i64 0, .int .u64 0, .int .i64 0, .int .i64 0] 35
  have G := Lib.hid F
  clear F
  go_enter Try.func45, Try.ntmps45
  go_wp2_with (first
    | ((with_reducible refine ((cP _ _ _ _) _).mono ?_); rintro e w1 ⟨rfl, hb⟩; have F := G.out.later hb; (try clear a0 a1 a2 a3 af b0 b1 b2 b3 bf r0 r1 r2 r3 rf); obtain ⟨a0, a1, a2, a3, af⟩ := F.c4 2 rfl; obtain ⟨b0, b1, b2, b3, bf⟩ := F.c4 1 rfl; obtain ⟨r0, r1, r2, r3, rf⟩ := F.c4 0 rfl; replace G := Lib.hid F; clear F hb)
    | ((with_reducible refine ((cA _ _ _ _) _).mono ?_); rintro e w1 ⟨rfl, hb⟩; have F := G.out.later hb; (try clear a0 a1 a2 a3 af b0 b1 b2 b3 bf r0 r1 r2 r3 rf); obtain ⟨a0, a1, a2, a3, af⟩ := F.c4 2 rfl; obtain ⟨b0, b1, b2, b3, bf⟩ := F.c4 1 rfl; obtain ⟨r0, r1, r2, r3, rf⟩ := F.c4 0 rfl; replace G := Lib.hid F; clear F hb))
  go_region_law (first
    | (go_simp; (with_reducible refine (cS _).mono ?_); rintro e w9 ⟨rfl, rfl⟩))
  all_goals
    go_wp2_with fail
    exact bodyPost_ret (v := .agg #[.int .i64 2, .int .u64 0, .int .i64 c, .int .i64 (wrap64 (u + s))]) (by simp [results, Try.results45, go_sem, *]) rfl ⟨rfl, ((((((show Past W.heap.size W _ from ⟨Nat.le_refl _, G.out.1⟩).set (a := ⟨W.heap.size, 3, none⟩) (Nat.le_refl _) _).set (a := ⟨W.heap.size + 1 + 1, 0, none⟩) (Nat.le_add_right _ 2) _).set (a := ⟨W.heap.size + 1 + 1, 1, none⟩) (Nat.le_add_right _ 2) _).set (a := ⟨W.heap.size + 1 + 1, 2, none⟩) (Nat.le_add_right _ 2) _).set (a := ⟨W.heap.size + 1 + 1, 3, none⟩) (Nat.le_add_right _ 2) _).drew.2⟩
end Go.Proofs.Ytpjfkmaceaikbaa
