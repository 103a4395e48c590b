/- Package eval: chosen. -/
import Derived.Test.YtpjfkmaceaikbaaEvBM
namespace Go.Proofs.Ytpjfkmaceaikbaa
open Go.RowKit Go.Maps
set_option linter.unusedVariables false
set_option linter.unusedSimpArgs false
set_option maxRecDepth 100000
set_option maxHeartbeats 1000000


theorem chosen_p (bk bb bbk bo ck cb cbk co : Int)  (W : World) :
    Calls Try.prog 43 #[.agg #[.int .i64 0, .int .u64 0, .int .i64 0, .int .i64 0], .agg #[.int .i64 bk, .int .u64 bb, .int .i64 bbk, .int .i64 bo], .agg #[.int .i64 ck, .int .u64 cb, .int .i64 cbk, .int .i64 co]] W fun e w' => e = .returned (.agg #[.int .i64 0, .int .u64 0, .int .i64 0, .int .i64 0]) ∧ Below W.heap.size W w' := by
  have cP : ∀ (p q r s : Int) W, Calls Try.prog 58 #[.agg #[.int .i64 p, .int .u64 q, .int .i64 r, .int .i64 s]] W fun e w' => e = .returned (.bool (p == 0)) ∧ Below W.heap.size W w' := fun p q r s W => isPoison_any ⟨p, q, r, s⟩ W
  have cV := fun b W => numberV_any b W
  have cK := fun W => unknown_any W
  have b0 := bV0
  have F := (((((Fr.start W)).push (g := W.heap.size) (by simp) [.int .i64 0, .int .u64 0, .int .i64 0, .int .i64 0] 35).push (g := W.heap.size + 1) (by simp) [.int .i64 bk, .int .u64 bb, .int .i64 bbk, .int .i64 bo] 35).push (g := W.heap.size + 1 + 1) (by simp) [.int .i64 ck, .int .u64 cb, .int .i64 cbk, .int .i64 co] 35).push (g := W.heap.size + 1 + 1 + 1) (by simp) [.int .i64 0, .int .u64 0, .int .i64 0, .int .i64 0] 35
  have G := Lib.hid F
  clear F
  go_enter Try.func43, Try.ntmps43
  go_wp2_with (first
    | ((with_reducible refine ((cP _ _ _ _) _).mono ?_); rintro e w1 ⟨rfl, hb⟩; have F := G.out.later hb; (try clear a0 a1 a2 a3 af b0 b1 b2 b3 bf c0 c1 c2 c3 cf r0 r1 r2 r3 rf); obtain ⟨a0, a1, a2, a3, af⟩ := F.c4 3 rfl; obtain ⟨b0, b1, b2, b3, bf⟩ := F.c4 2 rfl; obtain ⟨c0, c1, c2, c3, cf⟩ := F.c4 1 rfl; obtain ⟨r0, r1, r2, r3, rf⟩ := F.c4 0 rfl; replace G := Lib.hid F; clear F hb))
  exact bodyPost_ret (v := .agg #[.int .i64 0, .int .u64 0, .int .i64 0, .int .i64 0]) (by simp [results, Try.results43, go_sem, *]) rfl ⟨rfl, G.out.set4 0 rfl _ _ _ _⟩
theorem chosen_1 (bk bb bbk bo ck cb cbk co : Int)  (W : World) :
    Calls Try.prog 43 #[.agg #[.int .i64 1, .int .u64 1, .int .i64 0, .int .i64 0], .agg #[.int .i64 bk, .int .u64 bb, .int .i64 bbk, .int .i64 bo], .agg #[.int .i64 ck, .int .u64 cb, .int .i64 cbk, .int .i64 co]] W fun e w' => e = .returned (.agg #[.int .i64 bk, .int .u64 bb, .int .i64 bbk, .int .i64 bo]) ∧ Below W.heap.size W w' := by
  have cP : ∀ (p q r s : Int) W, Calls Try.prog 58 #[.agg #[.int .i64 p, .int .u64 q, .int .i64 r, .int .i64 s]] W fun e w' => e = .returned (.bool (p == 0)) ∧ Below W.heap.size W w' := fun p q r s W => isPoison_any ⟨p, q, r, s⟩ W
  have cV := fun b W => numberV_any b W
  have cK := fun W => unknown_any W
  have b0 := bV0
  have F := (((((Fr.start W)).push (g := W.heap.size) (by simp) [.int .i64 1, .int .u64 1, .int .i64 0, .int .i64 0] 35).push (g := W.heap.size + 1) (by simp) [.int .i64 bk, .int .u64 bb, .int .i64 bbk, .int .i64 bo] 35).push (g := W.heap.size + 1 + 1) (by simp) [.int .i64 ck, .int .u64 cb, .int .i64 cbk, .int .i64 co] 35).push (g := W.heap.size + 1 + 1 + 1) (by simp) [.int .i64 0, .int .u64 0, .int .i64 0, .int .i64 0] 35
  have G := Lib.hid F
  clear F
  go_enter Try.func43, Try.ntmps43
  go_wp2_with (first
    | ((with_reducible refine ((cP _ _ _ _) _).mono ?_); rintro e w1 ⟨rfl, hb⟩; have F := G.out.later hb; (try clear a0 a1 a2 a3 af b0 b1 b2 b3 bf c0 c1 c2 c3 cf r0 r1 r2 r3 rf); obtain ⟨a0, a1, a2, a3, af⟩ := F.c4 3 rfl; obtain ⟨b0, b1, b2, b3, bf⟩ := F.c4 2 rfl; obtain ⟨c0, c1, c2, c3, cf⟩ := F.c4 1 rfl; obtain ⟨r0, r1, r2, r3, rf⟩ := F.c4 0 rfl; replace G := Lib.hid F; clear F hb))
  go_region_law (first
    | (go_simp; (with_reducible refine ((cV _) _).mono ?_); rintro e w9 ⟨rfl, hb⟩; have F := G.out.drew.later hb; (try clear a0 a1 a2 a3 af b0 b1 b2 b3 bf c0 c1 c2 c3 cf r0 r1 r2 r3 rf); obtain ⟨a0, a1, a2, a3, af⟩ := F.c4 3 rfl; obtain ⟨b0, b1, b2, b3, bf⟩ := F.c4 2 rfl; obtain ⟨c0, c1, c2, c3, cf⟩ := F.c4 1 rfl; obtain ⟨r0, r1, r2, r3, rf⟩ := F.c4 0 rfl; replace G := Lib.hid F; clear F hb)
    | (go_simp; (with_reducible refine ((cV _) _).mono ?_); rintro e w9 ⟨rfl, hb⟩; have F := G.out.later hb; (try clear a0 a1 a2 a3 af b0 b1 b2 b3 bf c0 c1 c2 c3 cf r0 r1 r2 r3 rf); obtain ⟨a0, a1, a2, a3, af⟩ := F.c4 3 rfl; obtain ⟨b0, b1, b2, b3, bf⟩ := F.c4 2 rfl; obtain ⟨c0, c1, c2, c3, cf⟩ := F.c4 1 rfl; obtain ⟨r0, r1, r2, r3, rf⟩ := F.c4 0 rfl; replace G := Lib.hid F; clear F hb))
  all_goals
    go_wp2_with fail
    exact bodyPost_ret (v := .agg #[.int .i64 bk, .int .u64 bb, .int .i64 bbk, .int .i64 bo]) (by simp [results, Try.results43, go_sem, *]) rfl ⟨rfl, G.out.set4 0 rfl _ _ _ _⟩
theorem chosen_0 (bk bb bbk bo ck cb cbk co : Int)  (W : World) :
    Calls Try.prog 43 #[.agg #[.int .i64 1, .int .u64 0, .int .i64 0, .int .i64 0], .agg #[.int .i64 bk, .int .u64 bb, .int .i64 bbk, .int .i64 bo], .agg #[.int .i64 ck, .int .u64 cb, .int .i64 cbk, .int .i64 co]] W fun e w' => e = .returned (.agg #[.int .i64 ck, .int .u64 cb, .int .i64 cbk, .int .i64 co]) ∧ Below W.heap.size W w' := by
  have cP : ∀ (p q r s : Int) W, Calls Try.prog 58 #[.agg #[.int .i64 p, .int .u64 q, .int .i64 r, .int .i64 s]] W fun e w' => e = .returned (.bool (p == 0)) ∧ Below W.heap.size W w' := fun p q r s W => isPoison_any ⟨p, q, r, s⟩ W
  have cV := fun b W => numberV_any b W
  have cK := fun W => unknown_any W
  have b0 := bV0
  have F := (((((Fr.start W)).push (g := W.heap.size) (by simp) [.int .i64 1, .int .u64 0, .int .i64 0, .int .i64 0] 35).push (g := W.heap.size + 1) (by simp) [.int .i64 bk, .int .u64 bb, .int .i64 bbk, .int .i64 bo] 35).push (g := W.heap.size + 1 + 1) (by simp) [.int .i64 ck, .int .u64 cb, .int .i64 cbk, .int .i64 co] 35).push (g := W.heap.size + 1 + 1 + 1) (by simp) [.int .i64 0, .int .u64 0, .int .i64 0, .int .i64 0] 35
  have G := Lib.hid F
  clear F
  go_enter Try.func43, Try.ntmps43
  go_wp2_with (first
    | ((with_reducible refine ((cP _ _ _ _) _).mono ?_); rintro e w1 ⟨rfl, hb⟩; have F := G.out.later hb; (try clear a0 a1 a2 a3 af b0 b1 b2 b3 bf c0 c1 c2 c3 cf r0 r1 r2 r3 rf); obtain ⟨a0, a1, a2, a3, af⟩ := F.c4 3 rfl; obtain ⟨b0, b1, b2, b3, bf⟩ := F.c4 2 rfl; obtain ⟨c0, c1, c2, c3, cf⟩ := F.c4 1 rfl; obtain ⟨r0, r1, r2, r3, rf⟩ := F.c4 0 rfl; replace G := Lib.hid F; clear F hb))
  go_region_law (first
    | (go_simp; (with_reducible refine ((cV _) _).mono ?_); rintro e w9 ⟨rfl, hb⟩; have F := G.out.drew.later hb; (try clear a0 a1 a2 a3 af b0 b1 b2 b3 bf c0 c1 c2 c3 cf r0 r1 r2 r3 rf); obtain ⟨a0, a1, a2, a3, af⟩ := F.c4 3 rfl; obtain ⟨b0, b1, b2, b3, bf⟩ := F.c4 2 rfl; obtain ⟨c0, c1, c2, c3, cf⟩ := F.c4 1 rfl; obtain ⟨r0, r1, r2, r3, rf⟩ := F.c4 0 rfl; replace G := Lib.hid F; clear F hb)
    | (go_simp; (with_reducible refine ((cV _) _).mono ?_); rintro e w9 ⟨rfl, hb⟩; have F := G.out.later hb; (try clear a0 a1 a2 a3 af b0 b1 b2 b3 bf c0 c1 c2 c3 cf r0 r1 r2 r3 rf); obtain ⟨a0, a1, a2, a3, af⟩ := F.c4 3 rfl; obtain ⟨b0, b1, b2, b3, bf⟩ := F.c4 2 rfl; obtain ⟨c0, c1, c2, c3, cf⟩ := F.c4 1 rfl; obtain ⟨r0, r1, r2, r3, rf⟩ := F.c4 0 rfl; replace G := Lib.hid F; clear F hb))
  all_goals
    go_wp2_with fail
    go_region_law (first
      | (go_simp; (with_reducible refine ((cV _) _).mono ?_); rintro e w9 ⟨rfl, hb⟩; have F := G.out.drew.later hb; (try clear a0 a1 a2 a3 af b0 b1 b2 b3 bf c0 c1 c2 c3 cf r0 r1 r2 r3 rf); obtain ⟨a0, a1, a2, a3, af⟩ := F.c4 3 rfl; obtain ⟨b0, b1, b2, b3, bf⟩ := F.c4 2 rfl; obtain ⟨c0, c1, c2, c3, cf⟩ := F.c4 1 rfl; obtain ⟨r0, r1, r2, r3, rf⟩ := F.c4 0 rfl; replace G := Lib.hid F; clear F hb)
      | (go_simp; (with_reducible refine ((cV _) _).mono ?_); rintro e w9 ⟨rfl, hb⟩; have F := G.out.later hb; (try clear a0 a1 a2 a3 af b0 b1 b2 b3 bf c0 c1 c2 c3 cf r0 r1 r2 r3 rf); obtain ⟨a0, a1, a2, a3, af⟩ := F.c4 3 rfl; obtain ⟨b0, b1, b2, b3, bf⟩ := F.c4 2 rfl; obtain ⟨c0, c1, c2, c3, cf⟩ := F.c4 1 rfl; obtain ⟨r0, r1, r2, r3, rf⟩ := F.c4 0 rfl; replace G := Lib.hid F; clear F hb))
    all_goals
      go_wp2_with fail
      exact bodyPost_ret (v := .agg #[.int .i64 ck, .int .u64 cb, .int .i64 cbk, .int .i64 co]) (by simp [results, Try.results43, go_sem, *]) rfl ⟨rfl, G.out.set4 0 rfl _ _ _ _⟩
theorem chosen_e (ak ab abk ao bk bb bbk bo : Int) (h0 : (ak == 0) = false) (h1 : (ak == 1) = false)  (W : World) :
    Calls Try.prog 43 #[.agg #[.int .i64 ak, .int .u64 ab, .int .i64 abk, .int .i64 ao], .agg #[.int .i64 bk, .int .u64 bb, .int .i64 bbk, .int .i64 bo], .agg #[.int .i64 bk, .int .u64 bb, .int .i64 bbk, .int .i64 bo]] W fun e w' => e = .returned (.agg #[.int .i64 bk, .int .u64 bb, .int .i64 bbk, .int .i64 bo]) ∧ Below W.heap.size W w' := by
  have cP : ∀ (p q r s : Int) W, Calls Try.prog 58 #[.agg #[.int .i64 p, .int .u64 q, .int .i64 r, .int .i64 s]] W fun e w' => e = .returned (.bool (p == 0)) ∧ Below W.heap.size W w' := fun p q r s W => isPoison_any ⟨p, q, r, s⟩ W
  have cV := fun b W => numberV_any b W
  have cK := fun W => unknown_any W
  have b0 := bV0
  have F := (((((Fr.start W)).push (g := W.heap.size) (by simp) [.int .i64 ak, .int .u64 ab, .int .i64 abk, .int .i64 ao] 35).push (g := W.heap.size + 1) (by simp) [.int .i64 bk, .int .u64 bb, .int .i64 bbk, .int .i64 bo] 35).push (g := W.heap.size + 1 + 1) (by simp) [.int .i64 bk, .int .u64 bb, .int .i64 bbk, .int .i64 bo] 35).push (g := W.heap.size + 1 + 1 + 1) (by simp) [.int .i64 0, .int .u64 0, .int .i64 0, .int .i64 0] 35
  have G := Lib.hid F
  clear F
  go_enter Try.func43, Try.ntmps43
  go_wp2_with (first
    | ((with_reducible refine ((cP _ _ _ _) _).mono ?_); rintro e w1 ⟨rfl, hb⟩; have F := G.out.later hb; (try clear a0 a1 a2 a3 af b0 b1 b2 b3 bf c0 c1 c2 c3 cf r0 r1 r2 r3 rf); obtain ⟨a0, a1, a2, a3, af⟩ := F.c4 3 rfl; obtain ⟨b0, b1, b2, b3, bf⟩ := F.c4 2 rfl; obtain ⟨c0, c1, c2, c3, cf⟩ := F.c4 1 rfl; obtain ⟨r0, r1, r2, r3, rf⟩ := F.c4 0 rfl; replace G := Lib.hid F; clear F hb))
  go_region_law (first
    | (go_simp; (with_reducible refine ((cV _) _).mono ?_); rintro e w9 ⟨rfl, hb⟩; have F := G.out.drew.later hb; (try clear a0 a1 a2 a3 af b0 b1 b2 b3 bf c0 c1 c2 c3 cf r0 r1 r2 r3 rf); obtain ⟨a0, a1, a2, a3, af⟩ := F.c4 3 rfl; obtain ⟨b0, b1, b2, b3, bf⟩ := F.c4 2 rfl; obtain ⟨c0, c1, c2, c3, cf⟩ := F.c4 1 rfl; obtain ⟨r0, r1, r2, r3, rf⟩ := F.c4 0 rfl; replace G := Lib.hid F; clear F hb)
    | (go_simp; (with_reducible refine ((cV _) _).mono ?_); rintro e w9 ⟨rfl, hb⟩; have F := G.out.later hb; (try clear a0 a1 a2 a3 af b0 b1 b2 b3 bf c0 c1 c2 c3 cf r0 r1 r2 r3 rf); obtain ⟨a0, a1, a2, a3, af⟩ := F.c4 3 rfl; obtain ⟨b0, b1, b2, b3, bf⟩ := F.c4 2 rfl; obtain ⟨c0, c1, c2, c3, cf⟩ := F.c4 1 rfl; obtain ⟨r0, r1, r2, r3, rf⟩ := F.c4 0 rfl; replace G := Lib.hid F; clear F hb))
  all_goals
    go_wp2_with fail
    go_region_law (first
      | (go_simp; (with_reducible refine ((cV _) _).mono ?_); rintro e w9 ⟨rfl, hb⟩; have F := G.out.drew.later hb; (try clear a0 a1 a2 a3 af b0 b1 b2 b3 bf c0 c1 c2 c3 cf r0 r1 r2 r3 rf); obtain ⟨a0, a1, a2, a3, af⟩ := F.c4 3 rfl; obtain ⟨b0, b1, b2, b3, bf⟩ := F.c4 2 rfl; obtain ⟨c0, c1, c2, c3, cf⟩ := F.c4 1 rfl; obtain ⟨r0, r1, r2, r3, rf⟩ := F.c4 0 rfl; replace G := Lib.hid F; clear F hb)
      | (go_simp; (with_reducible refine ((cV _) _).mono ?_); rintro e w9 ⟨rfl, hb⟩; have F := G.out.later hb; (try clear a0 a1 a2 a3 af b0 b1 b2 b3 bf c0 c1 c2 c3 cf r0 r1 r2 r3 rf); obtain ⟨a0, a1, a2, a3, af⟩ := F.c4 3 rfl; obtain ⟨b0, b1, b2, b3, bf⟩ := F.c4 2 rfl; obtain ⟨c0, c1, c2, c3, cf⟩ := F.c4 1 rfl; obtain ⟨r0, r1, r2, r3, rf⟩ := F.c4 0 rfl; replace G := Lib.hid F; clear F hb))
    all_goals
      go_wp2_with fail
      exact bodyPost_ret (v := .agg #[.int .i64 bk, .int .u64 bb, .int .i64 bbk, .int .i64 bo]) (by simp [results, Try.results43, go_sem, *]) rfl ⟨rfl, G.out.set4 0 rfl _ _ _ _⟩
theorem chosen_k1 (ak ab abk ao bb bbk bo ck cb cbk co : Int) (h0 : (ak == 0) = false) (h1 : (ak == 1) = false) (hk : ((0 : Int) == ck) = false) (W : World) :
    Calls Try.prog 43 #[.agg #[.int .i64 ak, .int .u64 ab, .int .i64 abk, .int .i64 ao], .agg #[.int .i64 0, .int .u64 bb, .int .i64 bbk, .int .i64 bo], .agg #[.int .i64 ck, .int .u64 cb, .int .i64 cbk, .int .i64 co]] W fun e w' => e = .returned (.agg #[.int .i64 0, .int .u64 0, .int .i64 0, .int .i64 0]) ∧ Below W.heap.size W w' := by
  have cP : ∀ (p q r s : Int) W, Calls Try.prog 58 #[.agg #[.int .i64 p, .int .u64 q, .int .i64 r, .int .i64 s]] W fun e w' => e = .returned (.bool (p == 0)) ∧ Below W.heap.size W w' := fun p q r s W => isPoison_any ⟨p, q, r, s⟩ W
  have cV := fun b W => numberV_any b W
  have cK := fun W => unknown_any W
  have b0 := bV0
  have F := (((((Fr.start W)).push (g := W.heap.size) (by simp) [.int .i64 ak, .int .u64 ab, .int .i64 abk, .int .i64 ao] 35).push (g := W.heap.size + 1) (by simp) [.int .i64 0, .int .u64 bb, .int .i64 bbk, .int .i64 bo] 35).push (g := W.heap.size + 1 + 1) (by simp) [.int .i64 ck, .int .u64 cb, .int .i64 cbk, .int .i64 co] 35).push (g := W.heap.size + 1 + 1 + 1) (by simp) [.int .i64 0, .int .u64 0, .int .i64 0, .int .i64 0] 35
  have G := Lib.hid F
  clear F
  go_enter Try.func43, Try.ntmps43
  go_wp2_with (first
    | ((with_reducible refine ((cP _ _ _ _) _).mono ?_); rintro e w1 ⟨rfl, hb⟩; have F := G.out.later hb; (try clear a0 a1 a2 a3 af b0 b1 b2 b3 bf c0 c1 c2 c3 cf r0 r1 r2 r3 rf); obtain ⟨a0, a1, a2, a3, af⟩ := F.c4 3 rfl; obtain ⟨b0, b1, b2, b3, bf⟩ := F.c4 2 rfl; obtain ⟨c0, c1, c2, c3, cf⟩ := F.c4 1 rfl; obtain ⟨r0, r1, r2, r3, rf⟩ := F.c4 0 rfl; replace G := Lib.hid F; clear F hb))
  go_region_law (first
    | (go_simp; (with_reducible refine ((cV _) _).mono ?_); rintro e w9 ⟨rfl, hb⟩; have F := G.out.drew.later hb; (try clear a0 a1 a2 a3 af b0 b1 b2 b3 bf c0 c1 c2 c3 cf r0 r1 r2 r3 rf); obtain ⟨a0, a1, a2, a3, af⟩ := F.c4 3 rfl; obtain ⟨b0, b1, b2, b3, bf⟩ := F.c4 2 rfl; obtain ⟨c0, c1, c2, c3, cf⟩ := F.c4 1 rfl; obtain ⟨r0, r1, r2, r3, rf⟩ := F.c4 0 rfl; replace G := Lib.hid F; clear F hb)
    | (go_simp; (with_reducible refine ((cV _) _).mono ?_); rintro e w9 ⟨rfl, hb⟩; have F := G.out.later hb; (try clear a0 a1 a2 a3 af b0 b1 b2 b3 bf c0 c1 c2 c3 cf r0 r1 r2 r3 rf); obtain ⟨a0, a1, a2, a3, af⟩ := F.c4 3 rfl; obtain ⟨b0, b1, b2, b3, bf⟩ := F.c4 2 rfl; obtain ⟨c0, c1, c2, c3, cf⟩ := F.c4 1 rfl; obtain ⟨r0, r1, r2, r3, rf⟩ := F.c4 0 rfl; replace G := Lib.hid F; clear F hb))
  all_goals
    go_wp2_with fail
    go_region_law (first
      | (go_simp; (with_reducible refine ((cV _) _).mono ?_); rintro e w9 ⟨rfl, hb⟩; have F := G.out.drew.later hb; (try clear a0 a1 a2 a3 af b0 b1 b2 b3 bf c0 c1 c2 c3 cf r0 r1 r2 r3 rf); obtain ⟨a0, a1, a2, a3, af⟩ := F.c4 3 rfl; obtain ⟨b0, b1, b2, b3, bf⟩ := F.c4 2 rfl; obtain ⟨c0, c1, c2, c3, cf⟩ := F.c4 1 rfl; obtain ⟨r0, r1, r2, r3, rf⟩ := F.c4 0 rfl; replace G := Lib.hid F; clear F hb)
      | (go_simp; (with_reducible refine ((cV _) _).mono ?_); rintro e w9 ⟨rfl, hb⟩; have F := G.out.later hb; (try clear a0 a1 a2 a3 af b0 b1 b2 b3 bf c0 c1 c2 c3 cf r0 r1 r2 r3 rf); obtain ⟨a0, a1, a2, a3, af⟩ := F.c4 3 rfl; obtain ⟨b0, b1, b2, b3, bf⟩ := F.c4 2 rfl; obtain ⟨c0, c1, c2, c3, cf⟩ := F.c4 1 rfl; obtain ⟨r0, r1, r2, r3, rf⟩ := F.c4 0 rfl; replace G := Lib.hid F; clear F hb))
    all_goals
      go_wp2_with (first
        | ((with_reducible refine ((cP _ _ _ _) _).mono ?_); rintro e w1 ⟨rfl, hb⟩; have F := G.out.later hb; (try clear a0 a1 a2 a3 af b0 b1 b2 b3 bf c0 c1 c2 c3 cf r0 r1 r2 r3 rf); obtain ⟨a0, a1, a2, a3, af⟩ := F.c4 3 rfl; obtain ⟨b0, b1, b2, b3, bf⟩ := F.c4 2 rfl; obtain ⟨c0, c1, c2, c3, cf⟩ := F.c4 1 rfl; obtain ⟨r0, r1, r2, r3, rf⟩ := F.c4 0 rfl; replace G := Lib.hid F; clear F hb))
      exact bodyPost_ret (v := .agg #[.int .i64 0, .int .u64 0, .int .i64 0, .int .i64 0]) (by simp [results, Try.results43, go_sem, *]) rfl ⟨rfl, G.out.set4 0 rfl _ _ _ _⟩
theorem chosen_k2 (ak ab abk ao bk bb bbk bo cb cbk co : Int) (h0 : (ak == 0) = false) (h1 : (ak == 1) = false) (hk : (bk == 0) = false) (W : World) :
    Calls Try.prog 43 #[.agg #[.int .i64 ak, .int .u64 ab, .int .i64 abk, .int .i64 ao], .agg #[.int .i64 bk, .int .u64 bb, .int .i64 bbk, .int .i64 bo], .agg #[.int .i64 0, .int .u64 cb, .int .i64 cbk, .int .i64 co]] W fun e w' => e = .returned (.agg #[.int .i64 0, .int .u64 0, .int .i64 0, .int .i64 0]) ∧ Below W.heap.size W w' := by
  have cP : ∀ (p q r s : Int) W, Calls Try.prog 58 #[.agg #[.int .i64 p, .int .u64 q, .int .i64 r, .int .i64 s]] W fun e w' => e = .returned (.bool (p == 0)) ∧ Below W.heap.size W w' := fun p q r s W => isPoison_any ⟨p, q, r, s⟩ W
  have cV := fun b W => numberV_any b W
  have cK := fun W => unknown_any W
  have b0 := bV0
  have F := (((((Fr.start W)).push (g := W.heap.size) (by simp) [.int .i64 ak, .int .u64 ab, .int .i64 abk, .int .i64 ao] 35).push (g := W.heap.size + 1) (by simp) [.int .i64 bk, .int .u64 bb, .int .i64 bbk, .int .i64 bo] 35).push (g := W.heap.size + 1 + 1) (by simp) [.int .i64 0, .int .u64 cb, .int .i64 cbk, .int .i64 co] 35).push (g := W.heap.size + 1 + 1 + 1) (by simp) [.int .i64 0, .int .u64 0, .int .i64 0, .int .i64 0] 35
  have G := Lib.hid F
  clear F
  go_enter Try.func43, Try.ntmps43
  go_wp2_with (first
    | ((with_reducible refine ((cP _ _ _ _) _).mono ?_); rintro e w1 ⟨rfl, hb⟩; have F := G.out.later hb; (try clear a0 a1 a2 a3 af b0 b1 b2 b3 bf c0 c1 c2 c3 cf r0 r1 r2 r3 rf); obtain ⟨a0, a1, a2, a3, af⟩ := F.c4 3 rfl; obtain ⟨b0, b1, b2, b3, bf⟩ := F.c4 2 rfl; obtain ⟨c0, c1, c2, c3, cf⟩ := F.c4 1 rfl; obtain ⟨r0, r1, r2, r3, rf⟩ := F.c4 0 rfl; replace G := Lib.hid F; clear F hb))
  go_region_law (first
    | (go_simp; (with_reducible refine ((cV _) _).mono ?_); rintro e w9 ⟨rfl, hb⟩; have F := G.out.drew.later hb; (try clear a0 a1 a2 a3 af b0 b1 b2 b3 bf c0 c1 c2 c3 cf r0 r1 r2 r3 rf); obtain ⟨a0, a1, a2, a3, af⟩ := F.c4 3 rfl; obtain ⟨b0, b1, b2, b3, bf⟩ := F.c4 2 rfl; obtain ⟨c0, c1, c2, c3, cf⟩ := F.c4 1 rfl; obtain ⟨r0, r1, r2, r3, rf⟩ := F.c4 0 rfl; replace G := Lib.hid F; clear F hb)
    | (go_simp; (with_reducible refine ((cV _) _).mono ?_); rintro e w9 ⟨rfl, hb⟩; have F := G.out.later hb; (try clear a0 a1 a2 a3 af b0 b1 b2 b3 bf c0 c1 c2 c3 cf r0 r1 r2 r3 rf); obtain ⟨a0, a1, a2, a3, af⟩ := F.c4 3 rfl; obtain ⟨b0, b1, b2, b3, bf⟩ := F.c4 2 rfl; obtain ⟨c0, c1, c2, c3, cf⟩ := F.c4 1 rfl; obtain ⟨r0, r1, r2, r3, rf⟩ := F.c4 0 rfl; replace G := Lib.hid F; clear F hb))
  all_goals
    go_wp2_with fail
    go_region_law (first
      | (go_simp; (with_reducible refine ((cV _) _).mono ?_); rintro e w9 ⟨rfl, hb⟩; have F := G.out.drew.later hb; (try clear a0 a1 a2 a3 af b0 b1 b2 b3 bf c0 c1 c2 c3 cf r0 r1 r2 r3 rf); obtain ⟨a0, a1, a2, a3, af⟩ := F.c4 3 rfl; obtain ⟨b0, b1, b2, b3, bf⟩ := F.c4 2 rfl; obtain ⟨c0, c1, c2, c3, cf⟩ := F.c4 1 rfl; obtain ⟨r0, r1, r2, r3, rf⟩ := F.c4 0 rfl; replace G := Lib.hid F; clear F hb)
      | (go_simp; (with_reducible refine ((cV _) _).mono ?_); rintro e w9 ⟨rfl, hb⟩; have F := G.out.later hb; (try clear a0 a1 a2 a3 af b0 b1 b2 b3 bf c0 c1 c2 c3 cf r0 r1 r2 r3 rf); obtain ⟨a0, a1, a2, a3, af⟩ := F.c4 3 rfl; obtain ⟨b0, b1, b2, b3, bf⟩ := F.c4 2 rfl; obtain ⟨c0, c1, c2, c3, cf⟩ := F.c4 1 rfl; obtain ⟨r0, r1, r2, r3, rf⟩ := F.c4 0 rfl; replace G := Lib.hid F; clear F hb))
    all_goals
      go_wp2_with (first
        | ((with_reducible refine ((cP _ _ _ _) _).mono ?_); rintro e w1 ⟨rfl, hb⟩; have F := G.out.later hb; (try clear a0 a1 a2 a3 af b0 b1 b2 b3 bf c0 c1 c2 c3 cf r0 r1 r2 r3 rf); obtain ⟨a0, a1, a2, a3, af⟩ := F.c4 3 rfl; obtain ⟨b0, b1, b2, b3, bf⟩ := F.c4 2 rfl; obtain ⟨c0, c1, c2, c3, cf⟩ := F.c4 1 rfl; obtain ⟨r0, r1, r2, r3, rf⟩ := F.c4 0 rfl; replace G := Lib.hid F; clear F hb))
      exact bodyPost_ret (v := .agg #[.int .i64 0, .int .u64 0, .int .i64 0, .int .i64 0]) (by simp [results, Try.results43, go_sem, *]) rfl ⟨rfl, G.out.set4 0 rfl _ _ _ _⟩
theorem chosen_k3 (ak ab abk ao bk bb bbk bo ck cb cbk co : Int) (h0 : (ak == 0) = false) (h1 : (ak == 1) = false) (hk : (bk == ck) = false) (hb : (bk == 0) = false) (hc : (ck == 0) = false) (W : World) :
    Calls Try.prog 43 #[.agg #[.int .i64 ak, .int .u64 ab, .int .i64 abk, .int .i64 ao], .agg #[.int .i64 bk, .int .u64 bb, .int .i64 bbk, .int .i64 bo], .agg #[.int .i64 ck, .int .u64 cb, .int .i64 cbk, .int .i64 co]] W fun e w' => e = .returned (.agg #[.int .i64 3, .int .u64 0, .int .i64 0, .int .i64 0]) ∧ Below W.heap.size W w' := by
  have cP : ∀ (p q r s : Int) W, Calls Try.prog 58 #[.agg #[.int .i64 p, .int .u64 q, .int .i64 r, .int .i64 s]] W fun e w' => e = .returned (.bool (p == 0)) ∧ Below W.heap.size W w' := fun p q r s W => isPoison_any ⟨p, q, r, s⟩ W
  have cV := fun b W => numberV_any b W
  have cK := fun W => unknown_any W
  have b0 := bV0
  have F := (((((Fr.start W)).push (g := W.heap.size) (by simp) [.int .i64 ak, .int .u64 ab, .int .i64 abk, .int .i64 ao] 35).push (g := W.heap.size + 1) (by simp) [.int .i64 bk, .int .u64 bb, .int .i64 bbk, .int .i64 bo] 35).push (g := W.heap.size + 1 + 1) (by simp) [.int .i64 ck, .int .u64 cb, .int .i64 cbk, .int .i64 co] 35).push (g := W.heap.size + 1 + 1 + 1) (by simp) [.int .i64 0, .int .u64 0, .int .i64 0, .int .i64 0] 35
  have G := Lib.hid F
  clear F
  go_enter Try.func43, Try.ntmps43
  go_wp2_with (first
    | ((with_reducible refine ((cP _ _ _ _) _).mono ?_); rintro e w1 ⟨rfl, hb⟩; have F := G.out.later hb; (try clear a0 a1 a2 a3 af b0 b1 b2 b3 bf c0 c1 c2 c3 cf r0 r1 r2 r3 rf); obtain ⟨a0, a1, a2, a3, af⟩ := F.c4 3 rfl; obtain ⟨b0, b1, b2, b3, bf⟩ := F.c4 2 rfl; obtain ⟨c0, c1, c2, c3, cf⟩ := F.c4 1 rfl; obtain ⟨r0, r1, r2, r3, rf⟩ := F.c4 0 rfl; replace G := Lib.hid F; clear F hb))
  go_region_law (first
    | (go_simp; (with_reducible refine ((cV _) _).mono ?_); rintro e w9 ⟨rfl, hb⟩; have F := G.out.drew.later hb; (try clear a0 a1 a2 a3 af b0 b1 b2 b3 bf c0 c1 c2 c3 cf r0 r1 r2 r3 rf); obtain ⟨a0, a1, a2, a3, af⟩ := F.c4 3 rfl; obtain ⟨b0, b1, b2, b3, bf⟩ := F.c4 2 rfl; obtain ⟨c0, c1, c2, c3, cf⟩ := F.c4 1 rfl; obtain ⟨r0, r1, r2, r3, rf⟩ := F.c4 0 rfl; replace G := Lib.hid F; clear F hb)
    | (go_simp; (with_reducible refine ((cV _) _).mono ?_); rintro e w9 ⟨rfl, hb⟩; have F := G.out.later hb; (try clear a0 a1 a2 a3 af b0 b1 b2 b3 bf c0 c1 c2 c3 cf r0 r1 r2 r3 rf); obtain ⟨a0, a1, a2, a3, af⟩ := F.c4 3 rfl; obtain ⟨b0, b1, b2, b3, bf⟩ := F.c4 2 rfl; obtain ⟨c0, c1, c2, c3, cf⟩ := F.c4 1 rfl; obtain ⟨r0, r1, r2, r3, rf⟩ := F.c4 0 rfl; replace G := Lib.hid F; clear F hb))
  all_goals
    go_wp2_with fail
    go_region_law (first
      | (go_simp; (with_reducible refine ((cV _) _).mono ?_); rintro e w9 ⟨rfl, hb⟩; have F := G.out.drew.later hb; (try clear a0 a1 a2 a3 af b0 b1 b2 b3 bf c0 c1 c2 c3 cf r0 r1 r2 r3 rf); obtain ⟨a0, a1, a2, a3, af⟩ := F.c4 3 rfl; obtain ⟨b0, b1, b2, b3, bf⟩ := F.c4 2 rfl; obtain ⟨c0, c1, c2, c3, cf⟩ := F.c4 1 rfl; obtain ⟨r0, r1, r2, r3, rf⟩ := F.c4 0 rfl; replace G := Lib.hid F; clear F hb)
      | (go_simp; (with_reducible refine ((cV _) _).mono ?_); rintro e w9 ⟨rfl, hb⟩; have F := G.out.later hb; (try clear a0 a1 a2 a3 af b0 b1 b2 b3 bf c0 c1 c2 c3 cf r0 r1 r2 r3 rf); obtain ⟨a0, a1, a2, a3, af⟩ := F.c4 3 rfl; obtain ⟨b0, b1, b2, b3, bf⟩ := F.c4 2 rfl; obtain ⟨c0, c1, c2, c3, cf⟩ := F.c4 1 rfl; obtain ⟨r0, r1, r2, r3, rf⟩ := F.c4 0 rfl; replace G := Lib.hid F; clear F hb))
    all_goals
      go_wp2_with (first
        | ((with_reducible refine ((cP _ _ _ _) _).mono ?_); rintro e w1 ⟨rfl, hb⟩; have F := G.out.later hb; (try clear a0 a1 a2 a3 af b0 b1 b2 b3 bf c0 c1 c2 c3 cf r0 r1 r2 r3 rf); obtain ⟨a0, a1, a2, a3, af⟩ := F.c4 3 rfl; obtain ⟨b0, b1, b2, b3, bf⟩ := F.c4 2 rfl; obtain ⟨c0, c1, c2, c3, cf⟩ := F.c4 1 rfl; obtain ⟨r0, r1, r2, r3, rf⟩ := F.c4 0 rfl; replace G := Lib.hid F; clear F hb)
        | ((with_reducible refine (cK _).mono ?_); rintro e w1 ⟨rfl, hb⟩; have F := G.out.later hb; (try clear a0 a1 a2 a3 af b0 b1 b2 b3 bf c0 c1 c2 c3 cf r0 r1 r2 r3 rf); obtain ⟨a0, a1, a2, a3, af⟩ := F.c4 3 rfl; obtain ⟨b0, b1, b2, b3, bf⟩ := F.c4 2 rfl; obtain ⟨c0, c1, c2, c3, cf⟩ := F.c4 1 rfl; obtain ⟨r0, r1, r2, r3, rf⟩ := F.c4 0 rfl; replace G := Lib.hid F; clear F hb))
      exact bodyPost_ret (v := .agg #[.int .i64 3, .int .u64 0, .int .i64 0, .int .i64 0]) (by simp [results, Try.results43, go_sem, *]) rfl ⟨rfl, G.out.set4 0 rfl _ _ _ _⟩
theorem chosen_n (ak ab abk ao x y : Int) (h0 : (ak == 0) = false) (h1 : (ak == 1) = false) (hk : (x == y) = false) (W : World) :
    Calls Try.prog 43 #[.agg #[.int .i64 ak, .int .u64 ab, .int .i64 abk, .int .i64 ao], .agg #[.int .i64 1, .int .u64 x, .int .i64 0, .int .i64 0], .agg #[.int .i64 1, .int .u64 y, .int .i64 0, .int .i64 0]] W fun e w' => e = .returned (.agg #[.int .i64 3, .int .u64 0, .int .i64 0, .int .i64 0]) ∧ Below W.heap.size W w' := by
  have cP : ∀ (p q r s : Int) W, Calls Try.prog 58 #[.agg #[.int .i64 p, .int .u64 q, .int .i64 r, .int .i64 s]] W fun e w' => e = .returned (.bool (p == 0)) ∧ Below W.heap.size W w' := fun p q r s W => isPoison_any ⟨p, q, r, s⟩ W
  have cV := fun b W => numberV_any b W
  have cK := fun W => unknown_any W
  have b0 := bV0
  have F := (((((Fr.start W)).push (g := W.heap.size) (by simp) [.int .i64 ak, .int .u64 ab, .int .i64 abk, .int .i64 ao] 35).push (g := W.heap.size + 1) (by simp) [.int .i64 1, .int .u64 x, .int .i64 0, .int .i64 0] 35).push (g := W.heap.size + 1 + 1) (by simp) [.int .i64 1, .int .u64 y, .int .i64 0, .int .i64 0] 35).push (g := W.heap.size + 1 + 1 + 1) (by simp) [.int .i64 0, .int .u64 0, .int .i64 0, .int .i64 0] 35
  have G := Lib.hid F
  clear F
  go_enter Try.func43, Try.ntmps43
  go_wp2_with (first
    | ((with_reducible refine ((cP _ _ _ _) _).mono ?_); rintro e w1 ⟨rfl, hb⟩; have F := G.out.later hb; (try clear a0 a1 a2 a3 af b0 b1 b2 b3 bf c0 c1 c2 c3 cf r0 r1 r2 r3 rf); obtain ⟨a0, a1, a2, a3, af⟩ := F.c4 3 rfl; obtain ⟨b0, b1, b2, b3, bf⟩ := F.c4 2 rfl; obtain ⟨c0, c1, c2, c3, cf⟩ := F.c4 1 rfl; obtain ⟨r0, r1, r2, r3, rf⟩ := F.c4 0 rfl; replace G := Lib.hid F; clear F hb))
  go_region_law (first
    | (go_simp; (with_reducible refine ((cV _) _).mono ?_); rintro e w9 ⟨rfl, hb⟩; have F := G.out.drew.later hb; (try clear a0 a1 a2 a3 af b0 b1 b2 b3 bf c0 c1 c2 c3 cf r0 r1 r2 r3 rf); obtain ⟨a0, a1, a2, a3, af⟩ := F.c4 3 rfl; obtain ⟨b0, b1, b2, b3, bf⟩ := F.c4 2 rfl; obtain ⟨c0, c1, c2, c3, cf⟩ := F.c4 1 rfl; obtain ⟨r0, r1, r2, r3, rf⟩ := F.c4 0 rfl; replace G := Lib.hid F; clear F hb)
    | (go_simp; (with_reducible refine ((cV _) _).mono ?_); rintro e w9 ⟨rfl, hb⟩; have F := G.out.later hb; (try clear a0 a1 a2 a3 af b0 b1 b2 b3 bf c0 c1 c2 c3 cf r0 r1 r2 r3 rf); obtain ⟨a0, a1, a2, a3, af⟩ := F.c4 3 rfl; obtain ⟨b0, b1, b2, b3, bf⟩ := F.c4 2 rfl; obtain ⟨c0, c1, c2, c3, cf⟩ := F.c4 1 rfl; obtain ⟨r0, r1, r2, r3, rf⟩ := F.c4 0 rfl; replace G := Lib.hid F; clear F hb))
  all_goals
    go_wp2_with fail
    go_region_law (first
      | (go_simp; (with_reducible refine ((cV _) _).mono ?_); rintro e w9 ⟨rfl, hb⟩; have F := G.out.drew.later hb; (try clear a0 a1 a2 a3 af b0 b1 b2 b3 bf c0 c1 c2 c3 cf r0 r1 r2 r3 rf); obtain ⟨a0, a1, a2, a3, af⟩ := F.c4 3 rfl; obtain ⟨b0, b1, b2, b3, bf⟩ := F.c4 2 rfl; obtain ⟨c0, c1, c2, c3, cf⟩ := F.c4 1 rfl; obtain ⟨r0, r1, r2, r3, rf⟩ := F.c4 0 rfl; replace G := Lib.hid F; clear F hb)
      | (go_simp; (with_reducible refine ((cV _) _).mono ?_); rintro e w9 ⟨rfl, hb⟩; have F := G.out.later hb; (try clear a0 a1 a2 a3 af b0 b1 b2 b3 bf c0 c1 c2 c3 cf r0 r1 r2 r3 rf); obtain ⟨a0, a1, a2, a3, af⟩ := F.c4 3 rfl; obtain ⟨b0, b1, b2, b3, bf⟩ := F.c4 2 rfl; obtain ⟨c0, c1, c2, c3, cf⟩ := F.c4 1 rfl; obtain ⟨r0, r1, r2, r3, rf⟩ := F.c4 0 rfl; replace G := Lib.hid F; clear F hb))
    all_goals
      go_wp2_with (first
        | ((with_reducible refine ((cP _ _ _ _) _).mono ?_); rintro e w1 ⟨rfl, hb⟩; have F := G.out.later hb; (try clear a0 a1 a2 a3 af b0 b1 b2 b3 bf c0 c1 c2 c3 cf r0 r1 r2 r3 rf); obtain ⟨a0, a1, a2, a3, af⟩ := F.c4 3 rfl; obtain ⟨b0, b1, b2, b3, bf⟩ := F.c4 2 rfl; obtain ⟨c0, c1, c2, c3, cf⟩ := F.c4 1 rfl; obtain ⟨r0, r1, r2, r3, rf⟩ := F.c4 0 rfl; replace G := Lib.hid F; clear F hb)
        | ((with_reducible refine (cK _).mono ?_); rintro e w1 ⟨rfl, hb⟩; have F := G.out.later hb; (try clear a0 a1 a2 a3 af b0 b1 b2 b3 bf c0 c1 c2 c3 cf r0 r1 r2 r3 rf); obtain ⟨a0, a1, a2, a3, af⟩ := F.c4 3 rfl; obtain ⟨b0, b1, b2, b3, bf⟩ := F.c4 2 rfl; obtain ⟨c0, c1, c2, c3, cf⟩ := F.c4 1 rfl; obtain ⟨r0, r1, r2, r3, rf⟩ := F.c4 0 rfl; replace G := Lib.hid F; clear F hb))
      exact bodyPost_ret (v := .agg #[.int .i64 3, .int .u64 0, .int .i64 0, .int .i64 0]) (by simp [results, Try.results43, go_sem, *]) rfl ⟨rfl, G.out.set4 0 rfl _ _ _ _⟩
theorem chosen_d1 (ak ab abk ao x u y v : Int) (h0 : (ak == 0) = false) (h1 : (ak == 1) = false) (hk : (x == y) = false) (W : World) :
    Calls Try.prog 43 #[.agg #[.int .i64 ak, .int .u64 ab, .int .i64 abk, .int .i64 ao], .agg #[.int .i64 2, .int .u64 0, .int .i64 x, .int .i64 u], .agg #[.int .i64 2, .int .u64 0, .int .i64 y, .int .i64 v]] W fun e w' => e = .returned (.agg #[.int .i64 3, .int .u64 0, .int .i64 0, .int .i64 0]) ∧ Below W.heap.size W w' := by
  have cP : ∀ (p q r s : Int) W, Calls Try.prog 58 #[.agg #[.int .i64 p, .int .u64 q, .int .i64 r, .int .i64 s]] W fun e w' => e = .returned (.bool (p == 0)) ∧ Below W.heap.size W w' := fun p q r s W => isPoison_any ⟨p, q, r, s⟩ W
  have cV := fun b W => numberV_any b W
  have cK := fun W => unknown_any W
  have b0 := bV0
  have F := (((((Fr.start W)).push (g := W.heap.size) (by simp) [.int .i64 ak, .int .u64 ab, .int .i64 abk, .int .i64 ao] 35).push (g := W.heap.size + 1) (by simp) [.int .i64 2, .int .u64 0, .int .i64 x, .int .i64 u] 35).push (g := W.heap.size + 1 + 1) (by simp) [.int .i64 2, .int .u64 0, .int .i64 y, .int .i64 v] 35).push (g := W.heap.size + 1 + 1 + 1) (by simp) [.int .i64 0, .int .u64 0, .int .i64 0, .int .i64 0] 35
  have G := Lib.hid F
  clear F
  go_enter Try.func43, Try.ntmps43
  go_wp2_with (first
    | ((with_reducible refine ((cP _ _ _ _) _).mono ?_); rintro e w1 ⟨rfl, hb⟩; have F := G.out.later hb; (try clear a0 a1 a2 a3 af b0 b1 b2 b3 bf c0 c1 c2 c3 cf r0 r1 r2 r3 rf); obtain ⟨a0, a1, a2, a3, af⟩ := F.c4 3 rfl; obtain ⟨b0, b1, b2, b3, bf⟩ := F.c4 2 rfl; obtain ⟨c0, c1, c2, c3, cf⟩ := F.c4 1 rfl; obtain ⟨r0, r1, r2, r3, rf⟩ := F.c4 0 rfl; replace G := Lib.hid F; clear F hb))
  go_region_law (first
    | (go_simp; (with_reducible refine ((cV _) _).mono ?_); rintro e w9 ⟨rfl, hb⟩; have F := G.out.drew.later hb; (try clear a0 a1 a2 a3 af b0 b1 b2 b3 bf c0 c1 c2 c3 cf r0 r1 r2 r3 rf); obtain ⟨a0, a1, a2, a3, af⟩ := F.c4 3 rfl; obtain ⟨b0, b1, b2, b3, bf⟩ := F.c4 2 rfl; obtain ⟨c0, c1, c2, c3, cf⟩ := F.c4 1 rfl; obtain ⟨r0, r1, r2, r3, rf⟩ := F.c4 0 rfl; replace G := Lib.hid F; clear F hb)
    | (go_simp; (with_reducible refine ((cV _) _).mono ?_); rintro e w9 ⟨rfl, hb⟩; have F := G.out.later hb; (try clear a0 a1 a2 a3 af b0 b1 b2 b3 bf c0 c1 c2 c3 cf r0 r1 r2 r3 rf); obtain ⟨a0, a1, a2, a3, af⟩ := F.c4 3 rfl; obtain ⟨b0, b1, b2, b3, bf⟩ := F.c4 2 rfl; obtain ⟨c0, c1, c2, c3, cf⟩ := F.c4 1 rfl; obtain ⟨r0, r1, r2, r3, rf⟩ := F.c4 0 rfl; replace G := Lib.hid F; clear F hb))
  all_goals
    go_wp2_with fail
    go_region_law (first
      | (go_simp; (with_reducible refine ((cV _) _).mono ?_); rintro e w9 ⟨rfl, hb⟩; have F := G.out.drew.later hb; (try clear a0 a1 a2 a3 af b0 b1 b2 b3 bf c0 c1 c2 c3 cf r0 r1 r2 r3 rf); obtain ⟨a0, a1, a2, a3, af⟩ := F.c4 3 rfl; obtain ⟨b0, b1, b2, b3, bf⟩ := F.c4 2 rfl; obtain ⟨c0, c1, c2, c3, cf⟩ := F.c4 1 rfl; obtain ⟨r0, r1, r2, r3, rf⟩ := F.c4 0 rfl; replace G := Lib.hid F; clear F hb)
      | (go_simp; (with_reducible refine ((cV _) _).mono ?_); rintro e w9 ⟨rfl, hb⟩; have F := G.out.later hb; (try clear a0 a1 a2 a3 af b0 b1 b2 b3 bf c0 c1 c2 c3 cf r0 r1 r2 r3 rf); obtain ⟨a0, a1, a2, a3, af⟩ := F.c4 3 rfl; obtain ⟨b0, b1, b2, b3, bf⟩ := F.c4 2 rfl; obtain ⟨c0, c1, c2, c3, cf⟩ := F.c4 1 rfl; obtain ⟨r0, r1, r2, r3, rf⟩ := F.c4 0 rfl; replace G := Lib.hid F; clear F hb))
    all_goals
      go_wp2_with (first
        | ((with_reducible refine ((cP _ _ _ _) _).mono ?_); rintro e w1 ⟨rfl, hb⟩; have F := G.out.later hb; (try clear a0 a1 a2 a3 af b0 b1 b2 b3 bf c0 c1 c2 c3 cf r0 r1 r2 r3 rf); obtain ⟨a0, a1, a2, a3, af⟩ := F.c4 3 rfl; obtain ⟨b0, b1, b2, b3, bf⟩ := F.c4 2 rfl; obtain ⟨c0, c1, c2, c3, cf⟩ := F.c4 1 rfl; obtain ⟨r0, r1, r2, r3, rf⟩ := F.c4 0 rfl; replace G := Lib.hid F; clear F hb)
        | ((with_reducible refine (cK _).mono ?_); rintro e w1 ⟨rfl, hb⟩; have F := G.out.later hb; (try clear a0 a1 a2 a3 af b0 b1 b2 b3 bf c0 c1 c2 c3 cf r0 r1 r2 r3 rf); obtain ⟨a0, a1, a2, a3, af⟩ := F.c4 3 rfl; obtain ⟨b0, b1, b2, b3, bf⟩ := F.c4 2 rfl; obtain ⟨c0, c1, c2, c3, cf⟩ := F.c4 1 rfl; obtain ⟨r0, r1, r2, r3, rf⟩ := F.c4 0 rfl; replace G := Lib.hid F; clear F hb))
      exact bodyPost_ret (v := .agg #[.int .i64 3, .int .u64 0, .int .i64 0, .int .i64 0]) (by simp [results, Try.results43, go_sem, *]) rfl ⟨rfl, G.out.set4 0 rfl _ _ _ _⟩
theorem chosen_d2 (ak ab abk ao x u v : Int) (h0 : (ak == 0) = false) (h1 : (ak == 1) = false) (hk : (u == v) = false) (W : World) :
    Calls Try.prog 43 #[.agg #[.int .i64 ak, .int .u64 ab, .int .i64 abk, .int .i64 ao], .agg #[.int .i64 2, .int .u64 0, .int .i64 x, .int .i64 u], .agg #[.int .i64 2, .int .u64 0, .int .i64 x, .int .i64 v]] W fun e w' => e = .returned (.agg #[.int .i64 3, .int .u64 0, .int .i64 0, .int .i64 0]) ∧ Below W.heap.size W w' := by
  have cP : ∀ (p q r s : Int) W, Calls Try.prog 58 #[.agg #[.int .i64 p, .int .u64 q, .int .i64 r, .int .i64 s]] W fun e w' => e = .returned (.bool (p == 0)) ∧ Below W.heap.size W w' := fun p q r s W => isPoison_any ⟨p, q, r, s⟩ W
  have cV := fun b W => numberV_any b W
  have cK := fun W => unknown_any W
  have b0 := bV0
  have F := (((((Fr.start W)).push (g := W.heap.size) (by simp) [.int .i64 ak, .int .u64 ab, .int .i64 abk, .int .i64 ao] 35).push (g := W.heap.size + 1) (by simp) [.int .i64 2, .int .u64 0, .int .i64 x, .int .i64 u] 35).push (g := W.heap.size + 1 + 1) (by simp) [.int .i64 2, .int .u64 0, .int .i64 x, .int .i64 v] 35).push (g := W.heap.size + 1 + 1 + 1) (by simp) [.int .i64 0, .int .u64 0, .int .i64 0, .int .i64 0] 35
  have G := Lib.hid F
  clear F
  go_enter Try.func43, Try.ntmps43
  go_wp2_with (first
    | ((with_reducible refine ((cP _ _ _ _) _).mono ?_); rintro e w1 ⟨rfl, hb⟩; have F := G.out.later hb; (try clear a0 a1 a2 a3 af b0 b1 b2 b3 bf c0 c1 c2 c3 cf r0 r1 r2 r3 rf); obtain ⟨a0, a1, a2, a3, af⟩ := F.c4 3 rfl; obtain ⟨b0, b1, b2, b3, bf⟩ := F.c4 2 rfl; obtain ⟨c0, c1, c2, c3, cf⟩ := F.c4 1 rfl; obtain ⟨r0, r1, r2, r3, rf⟩ := F.c4 0 rfl; replace G := Lib.hid F; clear F hb))
  go_region_law (first
    | (go_simp; (with_reducible refine ((cV _) _).mono ?_); rintro e w9 ⟨rfl, hb⟩; have F := G.out.drew.later hb; (try clear a0 a1 a2 a3 af b0 b1 b2 b3 bf c0 c1 c2 c3 cf r0 r1 r2 r3 rf); obtain ⟨a0, a1, a2, a3, af⟩ := F.c4 3 rfl; obtain ⟨b0, b1, b2, b3, bf⟩ := F.c4 2 rfl; obtain ⟨c0, c1, c2, c3, cf⟩ := F.c4 1 rfl; obtain ⟨r0, r1, r2, r3, rf⟩ := F.c4 0 rfl; replace G := Lib.hid F; clear F hb)
    | (go_simp; (with_reducible refine ((cV _) _).mono ?_); rintro e w9 ⟨rfl, hb⟩; have F := G.out.later hb; (try clear a0 a1 a2 a3 af b0 b1 b2 b3 bf c0 c1 c2 c3 cf r0 r1 r2 r3 rf); obtain ⟨a0, a1, a2, a3, af⟩ := F.c4 3 rfl; obtain ⟨b0, b1, b2, b3, bf⟩ := F.c4 2 rfl; obtain ⟨c0, c1, c2, c3, cf⟩ := F.c4 1 rfl; obtain ⟨r0, r1, r2, r3, rf⟩ := F.c4 0 rfl; replace G := Lib.hid F; clear F hb))
  all_goals
    go_wp2_with fail
    go_region_law (first
      | (go_simp; (with_reducible refine ((cV _) _).mono ?_); rintro e w9 ⟨rfl, hb⟩; have F := G.out.drew.later hb; (try clear a0 a1 a2 a3 af b0 b1 b2 b3 bf c0 c1 c2 c3 cf r0 r1 r2 r3 rf); obtain ⟨a0, a1, a2, a3, af⟩ := F.c4 3 rfl; obtain ⟨b0, b1, b2, b3, bf⟩ := F.c4 2 rfl; obtain ⟨c0, c1, c2, c3, cf⟩ := F.c4 1 rfl; obtain ⟨r0, r1, r2, r3, rf⟩ := F.c4 0 rfl; replace G := Lib.hid F; clear F hb)
      | (go_simp; (with_reducible refine ((cV _) _).mono ?_); rintro e w9 ⟨rfl, hb⟩; have F := G.out.later hb; (try clear a0 a1 a2 a3 af b0 b1 b2 b3 bf c0 c1 c2 c3 cf r0 r1 r2 r3 rf); obtain ⟨a0, a1, a2, a3, af⟩ := F.c4 3 rfl; obtain ⟨b0, b1, b2, b3, bf⟩ := F.c4 2 rfl; obtain ⟨c0, c1, c2, c3, cf⟩ := F.c4 1 rfl; obtain ⟨r0, r1, r2, r3, rf⟩ := F.c4 0 rfl; replace G := Lib.hid F; clear F hb))
    all_goals
      go_wp2_with (first
        | ((with_reducible refine ((cP _ _ _ _) _).mono ?_); rintro e w1 ⟨rfl, hb⟩; have F := G.out.later hb; (try clear a0 a1 a2 a3 af b0 b1 b2 b3 bf c0 c1 c2 c3 cf r0 r1 r2 r3 rf); obtain ⟨a0, a1, a2, a3, af⟩ := F.c4 3 rfl; obtain ⟨b0, b1, b2, b3, bf⟩ := F.c4 2 rfl; obtain ⟨c0, c1, c2, c3, cf⟩ := F.c4 1 rfl; obtain ⟨r0, r1, r2, r3, rf⟩ := F.c4 0 rfl; replace G := Lib.hid F; clear F hb)
        | ((with_reducible refine (cK _).mono ?_); rintro e w1 ⟨rfl, hb⟩; have F := G.out.later hb; (try clear a0 a1 a2 a3 af b0 b1 b2 b3 bf c0 c1 c2 c3 cf r0 r1 r2 r3 rf); obtain ⟨a0, a1, a2, a3, af⟩ := F.c4 3 rfl; obtain ⟨b0, b1, b2, b3, bf⟩ := F.c4 2 rfl; obtain ⟨c0, c1, c2, c3, cf⟩ := F.c4 1 rfl; obtain ⟨r0, r1, r2, r3, rf⟩ := F.c4 0 rfl; replace G := Lib.hid F; clear F hb))
      exact bodyPost_ret (v := .agg #[.int .i64 3, .int .u64 0, .int .i64 0, .int .i64 0]) (by simp [results, Try.results43, go_sem, *]) rfl ⟨rfl, G.out.set4 0 rfl _ _ _ _⟩
end Go.Proofs.Ytpjfkmaceaikbaa
