/- The document's eval (latheref10): chosen. -/
import Derived.Test.YtpjfkmaceaikbaaReAM
import Derived.Deep.QuietTactic
import Derived.BigQuiet
namespace Go.Proofs.Ytpjfkmaceaikbaa
open Go.RowKit Go.Maps
set_option linter.unusedVariables false
set_option linter.unusedSimpArgs false
set_option maxRecDepth 100000
set_option maxHeartbeats 1000000

theorem rChosen_p (ab abk ao bk bb bbk bo ck cb cbk co : Int) (W : World) :
    Calls Try.prog 30 #[.agg #[.int .i64 0, .int .u64 ab, .int .i64 abk, .int .i64 ao], .agg #[.int .i64 bk, .int .u64 bb, .int .i64 bbk, .int .i64 bo], .agg #[.int .i64 ck, .int .u64 cb, .int .i64 cbk, .int .i64 co]] W fun e w' => e = .returned (.agg #[.int .i64 0, .int .u64 0, .int .i64 0, .int .i64 0]) ∧ Below W.heap.size W w' := by
  have v0 := bV0
  have v3 := bV3
  have F := (((((Fr.start W).push (g := W.heap.size) (by simp) [.int .i64 0, .int .u64 ab, .int .i64 abk, .int .i64 ao] 35).push (g := W.heap.size + 1) (by simp) [.int .i64 bk, .int .u64 bb, .int .i64 bbk, .int .i64 bo] 35).push (g := W.heap.size + 1 + 1) (by simp) [.int .i64 ck, .int .u64 cb, .int .i64 cbk, .int .i64 co] 35).push (g := W.heap.size + 1 + 1 + 1) (by simp) [.int .i64 0, .int .u64 0, .int .i64 0, .int .i64 0] 35)
  have G := Lib.hid F
  clear F
  go_enter Try.func30, Try.ntmps30
  go_wp2_with fail
  exact bodyPost_ret (v := .agg #[.int .i64 0, .int .u64 0, .int .i64 0, .int .i64 0]) (by simp [results, Try.results30, go_sem, *]) rfl ⟨rfl, below4 W _ _ _ _⟩
theorem rChosen_1 (abk ao bk bb bbk bo ck cb cbk co : Int) (W : World) :
    Calls Try.prog 30 #[.agg #[.int .i64 1, .int .u64 1, .int .i64 abk, .int .i64 ao], .agg #[.int .i64 bk, .int .u64 bb, .int .i64 bbk, .int .i64 bo], .agg #[.int .i64 ck, .int .u64 cb, .int .i64 cbk, .int .i64 co]] W fun e w' => e = .returned (.agg #[.int .i64 bk, .int .u64 bb, .int .i64 bbk, .int .i64 bo]) ∧ Below W.heap.size W w' := by
  have v0 := bV0
  have v3 := bV3
  have F := (((((Fr.start W).push (g := W.heap.size) (by simp) [.int .i64 1, .int .u64 1, .int .i64 abk, .int .i64 ao] 35).push (g := W.heap.size + 1) (by simp) [.int .i64 bk, .int .u64 bb, .int .i64 bbk, .int .i64 bo] 35).push (g := W.heap.size + 1 + 1) (by simp) [.int .i64 ck, .int .u64 cb, .int .i64 cbk, .int .i64 co] 35).push (g := W.heap.size + 1 + 1 + 1) (by simp) [.int .i64 0, .int .u64 0, .int .i64 0, .int .i64 0] 35)
  have G := Lib.hid F
  clear F
  go_enter Try.func30, Try.ntmps30
  go_wp2_with fail
  exact bodyPost_ret (v := .agg #[.int .i64 bk, .int .u64 bb, .int .i64 bbk, .int .i64 bo]) (by simp [results, Try.results30, go_sem, *]) rfl ⟨rfl, below4 W _ _ _ _⟩
theorem rChosen_0 (x abk ao bk bb bbk bo ck cb cbk co : Int) (W : World)
    (hx : (x == 1) = false) :
    Calls Try.prog 30 #[.agg #[.int .i64 1, .int .u64 x, .int .i64 abk, .int .i64 ao], .agg #[.int .i64 bk, .int .u64 bb, .int .i64 bbk, .int .i64 bo], .agg #[.int .i64 ck, .int .u64 cb, .int .i64 cbk, .int .i64 co]] W fun e w' => e = .returned (.agg #[.int .i64 ck, .int .u64 cb, .int .i64 cbk, .int .i64 co]) ∧ Below W.heap.size W w' := by
  have v0 := bV0
  have v3 := bV3
  have F := (((((Fr.start W).push (g := W.heap.size) (by simp) [.int .i64 1, .int .u64 x, .int .i64 abk, .int .i64 ao] 35).push (g := W.heap.size + 1) (by simp) [.int .i64 bk, .int .u64 bb, .int .i64 bbk, .int .i64 bo] 35).push (g := W.heap.size + 1 + 1) (by simp) [.int .i64 ck, .int .u64 cb, .int .i64 cbk, .int .i64 co] 35).push (g := W.heap.size + 1 + 1 + 1) (by simp) [.int .i64 0, .int .u64 0, .int .i64 0, .int .i64 0] 35)
  have G := Lib.hid F
  clear F
  go_enter Try.func30, Try.ntmps30
  go_wp2_with fail
  exact bodyPost_ret (v := .agg #[.int .i64 ck, .int .u64 cb, .int .i64 cbk, .int .i64 co]) (by simp [results, Try.results30, go_sem, *]) rfl ⟨rfl, below4 W _ _ _ _⟩
theorem rChosen_e (ak ab abk ao bk bb bbk bo : Int) (W : World)
    (h0 : (ak == 0) = false)
    (h1 : (ak == 1) = false) :
    Calls Try.prog 30 #[.agg #[.int .i64 ak, .int .u64 ab, .int .i64 abk, .int .i64 ao], .agg #[.int .i64 bk, .int .u64 bb, .int .i64 bbk, .int .i64 bo], .agg #[.int .i64 bk, .int .u64 bb, .int .i64 bbk, .int .i64 bo]] W fun e w' => e = .returned (.agg #[.int .i64 bk, .int .u64 bb, .int .i64 bbk, .int .i64 bo]) ∧ Below W.heap.size W w' := by
  have v0 := bV0
  have v3 := bV3
  have F := (((((Fr.start W).push (g := W.heap.size) (by simp) [.int .i64 ak, .int .u64 ab, .int .i64 abk, .int .i64 ao] 35).push (g := W.heap.size + 1) (by simp) [.int .i64 bk, .int .u64 bb, .int .i64 bbk, .int .i64 bo] 35).push (g := W.heap.size + 1 + 1) (by simp) [.int .i64 bk, .int .u64 bb, .int .i64 bbk, .int .i64 bo] 35).push (g := W.heap.size + 1 + 1 + 1) (by simp) [.int .i64 0, .int .u64 0, .int .i64 0, .int .i64 0] 35)
  have G := Lib.hid F
  clear F
  go_enter Try.func30, Try.ntmps30
  go_wp2_with fail
  exact bodyPost_ret (v := .agg #[.int .i64 bk, .int .u64 bb, .int .i64 bbk, .int .i64 bo]) (by simp [results, Try.results30, go_sem, *]) rfl ⟨rfl, below4 W _ _ _ _⟩
theorem rChosen_k1 (ak ab abk ao bb bbk bo ck cb cbk co : Int) (W : World)
    (h0 : (ak == 0) = false)
    (h1 : (ak == 1) = false)
    (hk : ((0 : Int) == ck) = false) :
    Calls Try.prog 30 #[.agg #[.int .i64 ak, .int .u64 ab, .int .i64 abk, .int .i64 ao], .agg #[.int .i64 0, .int .u64 bb, .int .i64 bbk, .int .i64 bo], .agg #[.int .i64 ck, .int .u64 cb, .int .i64 cbk, .int .i64 co]] W fun e w' => e = .returned (.agg #[.int .i64 0, .int .u64 0, .int .i64 0, .int .i64 0]) ∧ Below W.heap.size W w' := by
  have v0 := bV0
  have v3 := bV3
  have F := (((((Fr.start W).push (g := W.heap.size) (by simp) [.int .i64 ak, .int .u64 ab, .int .i64 abk, .int .i64 ao] 35).push (g := W.heap.size + 1) (by simp) [.int .i64 0, .int .u64 bb, .int .i64 bbk, .int .i64 bo] 35).push (g := W.heap.size + 1 + 1) (by simp) [.int .i64 ck, .int .u64 cb, .int .i64 cbk, .int .i64 co] 35).push (g := W.heap.size + 1 + 1 + 1) (by simp) [.int .i64 0, .int .u64 0, .int .i64 0, .int .i64 0] 35)
  have G := Lib.hid F
  clear F
  go_enter Try.func30, Try.ntmps30
  go_wp2_with fail
  exact bodyPost_ret (v := .agg #[.int .i64 0, .int .u64 0, .int .i64 0, .int .i64 0]) (by simp [results, Try.results30, go_sem, *]) rfl ⟨rfl, below4 W _ _ _ _⟩
theorem rChosen_k2 (ak ab abk ao bk bb bbk bo cb cbk co : Int) (W : World)
    (h0 : (ak == 0) = false)
    (h1 : (ak == 1) = false)
    (hk : (bk == 0) = false) :
    Calls Try.prog 30 #[.agg #[.int .i64 ak, .int .u64 ab, .int .i64 abk, .int .i64 ao], .agg #[.int .i64 bk, .int .u64 bb, .int .i64 bbk, .int .i64 bo], .agg #[.int .i64 0, .int .u64 cb, .int .i64 cbk, .int .i64 co]] W fun e w' => e = .returned (.agg #[.int .i64 0, .int .u64 0, .int .i64 0, .int .i64 0]) ∧ Below W.heap.size W w' := by
  have v0 := bV0
  have v3 := bV3
  have F := (((((Fr.start W).push (g := W.heap.size) (by simp) [.int .i64 ak, .int .u64 ab, .int .i64 abk, .int .i64 ao] 35).push (g := W.heap.size + 1) (by simp) [.int .i64 bk, .int .u64 bb, .int .i64 bbk, .int .i64 bo] 35).push (g := W.heap.size + 1 + 1) (by simp) [.int .i64 0, .int .u64 cb, .int .i64 cbk, .int .i64 co] 35).push (g := W.heap.size + 1 + 1 + 1) (by simp) [.int .i64 0, .int .u64 0, .int .i64 0, .int .i64 0] 35)
  have G := Lib.hid F
  clear F
  go_enter Try.func30, Try.ntmps30
  go_wp2_with fail
  exact bodyPost_ret (v := .agg #[.int .i64 0, .int .u64 0, .int .i64 0, .int .i64 0]) (by simp [results, Try.results30, go_sem, *]) rfl ⟨rfl, below4 W _ _ _ _⟩
theorem rChosen_k3 (ak ab abk ao bk bb bbk bo ck cb cbk co : Int) (W : World)
    (h0 : (ak == 0) = false)
    (h1 : (ak == 1) = false)
    (hk : (bk == ck) = false)
    (hb : (bk == 0) = false)
    (hc : (ck == 0) = false) :
    Calls Try.prog 30 #[.agg #[.int .i64 ak, .int .u64 ab, .int .i64 abk, .int .i64 ao], .agg #[.int .i64 bk, .int .u64 bb, .int .i64 bbk, .int .i64 bo], .agg #[.int .i64 ck, .int .u64 cb, .int .i64 cbk, .int .i64 co]] W fun e w' => e = .returned (.agg #[.int .i64 3, .int .u64 0, .int .i64 0, .int .i64 0]) ∧ Below W.heap.size W w' := by
  have v0 := bV0
  have v3 := bV3
  have F := (((((Fr.start W).push (g := W.heap.size) (by simp) [.int .i64 ak, .int .u64 ab, .int .i64 abk, .int .i64 ao] 35).push (g := W.heap.size + 1) (by simp) [.int .i64 bk, .int .u64 bb, .int .i64 bbk, .int .i64 bo] 35).push (g := W.heap.size + 1 + 1) (by simp) [.int .i64 ck, .int .u64 cb, .int .i64 cbk, .int .i64 co] 35).push (g := W.heap.size + 1 + 1 + 1) (by simp) [.int .i64 0, .int .u64 0, .int .i64 0, .int .i64 0] 35)
  have G := Lib.hid F
  clear F
  go_enter Try.func30, Try.ntmps30
  go_wp2_with (first
    | ((with_reducible refine (rAnyV_any _).mono ?_); rintro e w1 ⟨rfl, hb⟩; have F := G.out.later hb; (try clear a0 a1 a2 a3 af b0 b1 b2 b3 bf c0 c1 c2 c3 cf r0 r1 r2 r3 rf); obtain ⟨a0, a1, a2, a3, af⟩ := F.c4 3 rfl; obtain ⟨b0, b1, b2, b3, bf⟩ := F.c4 2 rfl; obtain ⟨c0, c1, c2, c3, cf⟩ := F.c4 1 rfl; obtain ⟨r0, r1, r2, r3, rf⟩ := F.c4 0 rfl; replace G := Lib.hid F; clear F hb))
  exact bodyPost_ret (v := .agg #[.int .i64 3, .int .u64 0, .int .i64 0, .int .i64 0]) (by simp [results, Try.results30, go_sem, *]) rfl ⟨rfl, G.out.set4 0 rfl _ _ _ _⟩
theorem rChosen_n (ak ab abk ao x y : Int) (W : World)
    (h0 : (ak == 0) = false)
    (h1 : (ak == 1) = false)
    (hk : (x == y) = false) :
    Calls Try.prog 30 #[.agg #[.int .i64 ak, .int .u64 ab, .int .i64 abk, .int .i64 ao], .agg #[.int .i64 1, .int .u64 x, .int .i64 0, .int .i64 0], .agg #[.int .i64 1, .int .u64 y, .int .i64 0, .int .i64 0]] W fun e w' => e = .returned (.agg #[.int .i64 3, .int .u64 0, .int .i64 0, .int .i64 0]) ∧ Below W.heap.size W w' := by
  have v0 := bV0
  have v3 := bV3
  have F := (((((Fr.start W).push (g := W.heap.size) (by simp) [.int .i64 ak, .int .u64 ab, .int .i64 abk, .int .i64 ao] 35).push (g := W.heap.size + 1) (by simp) [.int .i64 1, .int .u64 x, .int .i64 0, .int .i64 0] 35).push (g := W.heap.size + 1 + 1) (by simp) [.int .i64 1, .int .u64 y, .int .i64 0, .int .i64 0] 35).push (g := W.heap.size + 1 + 1 + 1) (by simp) [.int .i64 0, .int .u64 0, .int .i64 0, .int .i64 0] 35)
  have G := Lib.hid F
  clear F
  go_enter Try.func30, Try.ntmps30
  go_wp2_with (first
    | ((with_reducible refine (rAnyV_any _).mono ?_); rintro e w1 ⟨rfl, hb⟩; have F := G.out.later hb; (try clear a0 a1 a2 a3 af b0 b1 b2 b3 bf c0 c1 c2 c3 cf r0 r1 r2 r3 rf); obtain ⟨a0, a1, a2, a3, af⟩ := F.c4 3 rfl; obtain ⟨b0, b1, b2, b3, bf⟩ := F.c4 2 rfl; obtain ⟨c0, c1, c2, c3, cf⟩ := F.c4 1 rfl; obtain ⟨r0, r1, r2, r3, rf⟩ := F.c4 0 rfl; replace G := Lib.hid F; clear F hb))
  exact bodyPost_ret (v := .agg #[.int .i64 3, .int .u64 0, .int .i64 0, .int .i64 0]) (by simp [results, Try.results30, go_sem, *]) rfl ⟨rfl, G.out.set4 0 rfl _ _ _ _⟩
theorem rChosen_d1 (ak ab abk ao x u y v : Int) (W : World)
    (h0 : (ak == 0) = false)
    (h1 : (ak == 1) = false)
    (hk : (x == y) = false) :
    Calls Try.prog 30 #[.agg #[.int .i64 ak, .int .u64 ab, .int .i64 abk, .int .i64 ao], .agg #[.int .i64 2, .int .u64 0, .int .i64 x, .int .i64 u], .agg #[.int .i64 2, .int .u64 0, .int .i64 y, .int .i64 v]] W fun e w' => e = .returned (.agg #[.int .i64 3, .int .u64 0, .int .i64 0, .int .i64 0]) ∧ Below W.heap.size W w' := by
  have v0 := bV0
  have v3 := bV3
  have F := (((((Fr.start W).push (g := W.heap.size) (by simp) [.int .i64 ak, .int .u64 ab, .int .i64 abk, .int .i64 ao] 35).push (g := W.heap.size + 1) (by simp) [.int .i64 2, .int .u64 0, .int .i64 x, .int .i64 u] 35).push (g := W.heap.size + 1 + 1) (by simp) [.int .i64 2, .int .u64 0, .int .i64 y, .int .i64 v] 35).push (g := W.heap.size + 1 + 1 + 1) (by simp) [.int .i64 0, .int .u64 0, .int .i64 0, .int .i64 0] 35)
  have G := Lib.hid F
  clear F
  go_enter Try.func30, Try.ntmps30
  go_wp2_with (first
    | ((with_reducible refine (rAnyV_any _).mono ?_); rintro e w1 ⟨rfl, hb⟩; have F := G.out.later hb; (try clear a0 a1 a2 a3 af b0 b1 b2 b3 bf c0 c1 c2 c3 cf r0 r1 r2 r3 rf); obtain ⟨a0, a1, a2, a3, af⟩ := F.c4 3 rfl; obtain ⟨b0, b1, b2, b3, bf⟩ := F.c4 2 rfl; obtain ⟨c0, c1, c2, c3, cf⟩ := F.c4 1 rfl; obtain ⟨r0, r1, r2, r3, rf⟩ := F.c4 0 rfl; replace G := Lib.hid F; clear F hb))
  exact bodyPost_ret (v := .agg #[.int .i64 3, .int .u64 0, .int .i64 0, .int .i64 0]) (by simp [results, Try.results30, go_sem, *]) rfl ⟨rfl, G.out.set4 0 rfl _ _ _ _⟩
theorem rChosen_d2 (ak ab abk ao x u v : Int) (W : World)
    (h0 : (ak == 0) = false)
    (h1 : (ak == 1) = false)
    (hk : (u == v) = false) :
    Calls Try.prog 30 #[.agg #[.int .i64 ak, .int .u64 ab, .int .i64 abk, .int .i64 ao], .agg #[.int .i64 2, .int .u64 0, .int .i64 x, .int .i64 u], .agg #[.int .i64 2, .int .u64 0, .int .i64 x, .int .i64 v]] W fun e w' => e = .returned (.agg #[.int .i64 3, .int .u64 0, .int .i64 0, .int .i64 0]) ∧ Below W.heap.size W w' := by
  have v0 := bV0
  have v3 := bV3
  have F := (((((Fr.start W).push (g := W.heap.size) (by simp) [.int .i64 ak, .int .u64 ab, .int .i64 abk, .int .i64 ao] 35).push (g := W.heap.size + 1) (by simp) [.int .i64 2, .int .u64 0, .int .i64 x, .int .i64 u] 35).push (g := W.heap.size + 1 + 1) (by simp) [.int .i64 2, .int .u64 0, .int .i64 x, .int .i64 v] 35).push (g := W.heap.size + 1 + 1 + 1) (by simp) [.int .i64 0, .int .u64 0, .int .i64 0, .int .i64 0] 35)
  have G := Lib.hid F
  clear F
  go_enter Try.func30, Try.ntmps30
  go_wp2_with (first
    | ((with_reducible refine (rAnyV_any _).mono ?_); rintro e w1 ⟨rfl, hb⟩; have F := G.out.later hb; (try clear a0 a1 a2 a3 af b0 b1 b2 b3 bf c0 c1 c2 c3 cf r0 r1 r2 r3 rf); obtain ⟨a0, a1, a2, a3, af⟩ := F.c4 3 rfl; obtain ⟨b0, b1, b2, b3, bf⟩ := F.c4 2 rfl; obtain ⟨c0, c1, c2, c3, cf⟩ := F.c4 1 rfl; obtain ⟨r0, r1, r2, r3, rf⟩ := F.c4 0 rfl; replace G := Lib.hid F; clear F hb))
  exact bodyPost_ret (v := .agg #[.int .i64 3, .int .u64 0, .int .i64 0, .int .i64 0]) (by simp [results, Try.results30, go_sem, *]) rfl ⟨rfl, G.out.set4 0 rfl _ _ _ _⟩
end Go.Proofs.Ytpjfkmaceaikbaa
