/- Package eval: made. -/
import Derived.Test.YtpjfkmaceaikbaaEvGM
namespace Go.Proofs.Ytpjfkmaceaikbaa
open Go.RowKit Go.Maps
set_option linter.unusedVariables false
set_option linter.unusedSimpArgs false
set_option maxRecDepth 100000
set_option maxHeartbeats 1000000


theorem made_4 (op rg ty n fl : Int) (ap : Option Addr) (al ac : Nat) (tp : Option Addr) (tl tc : Nat) (ak ab abk ao bk bb bbk bo ck cb cbk co zk zb zbk zo E : Int) (q4 : (op == 4) = true) (c5 : ∀ W, Calls Try.prog 40 #[.agg #[.int .i64 op, .int .i64 rg, .int .i64 ty, .int .i64 n, .int .i64 fl, .slice ap al ac, .slice tp tl tc], .agg #[.int .i64 ak, .int .u64 ab, .int .i64 abk, .int .i64 ao], .agg #[.int .i64 bk, .int .u64 bb, .int .i64 bbk, .int .i64 bo]] W fun e w' => e = .returned (.tuple #[.agg #[.int .i64 zk, .int .u64 zb, .int .i64 zbk, .int .i64 zo], .int .i64 E]) ∧ Below W.heap.size W w') (W : World) :
    Calls Try.prog 20 #[.agg #[.int .i64 op, .int .i64 rg, .int .i64 ty, .int .i64 n, .int .i64 fl, .slice ap al ac, .slice tp tl tc], .agg #[.int .i64 ak, .int .u64 ab, .int .i64 abk, .int .i64 ao], .agg #[.int .i64 bk, .int .u64 bb, .int .i64 bbk, .int .i64 bo], .agg #[.int .i64 ck, .int .u64 cb, .int .i64 cbk, .int .i64 co]] W fun e w' => e = .returned (.tuple #[.agg #[.int .i64 zk, .int .u64 zb, .int .i64 zbk, .int .i64 zo], .int .i64 E]) ∧ Below W.heap.size W w' := by
  have F := ((((((Fr.start W)).push (g := W.heap.size) (by simp) [.int .i64 op, .int .i64 rg, .int .i64 ty, .int .i64 n, .int .i64 fl, .slice ap al ac, .slice tp tl tc] 25).push (g := W.heap.size + 1) (by simp) [.int .i64 ak, .int .u64 ab, .int .i64 abk, .int .i64 ao] 35).push (g := W.heap.size + 1 + 1) (by simp) [.int .i64 bk, .int .u64 bb, .int .i64 bbk, .int .i64 bo] 35).push (g := W.heap.size + 1 + 1 + 1) (by simp) [.int .i64 ck, .int .u64 cb, .int .i64 cbk, .int .i64 co] 35).push (g := W.heap.size + 1 + 1 + 1 + 1) (by simp) [.int .i64 0, .int .u64 0, .int .i64 0, .int .i64 0] 35
  have G := Lib.hid F
  clear F
  go_enter Try.func20, Try.ntmps20
  go_wp2_with (first
    | ((with_reducible refine (c5 _).mono ?_); rintro e w1 ⟨rfl, hb⟩; have F := G.out.later hb; (try clear i0 i1 i2 i3 i4 i5 i6 a0 a1 a2 a3 af b0 b1 b2 b3 bf c0 c1 c2 c3 cf r0 r1 r2 r3 rf); obtain ⟨i0, i1, i2, i3, i4, i5, i6⟩ := F.c7 4 rfl; obtain ⟨a0, a1, a2, a3, af⟩ := F.c4 3 rfl; obtain ⟨b0, b1, b2, b3, bf⟩ := F.c4 2 rfl; obtain ⟨c0, c1, c2, c3, cf⟩ := F.c4 1 rfl; obtain ⟨r0, r1, r2, r3, rf⟩ := F.c4 0 rfl; replace G := Lib.hid F; clear F hb))
  exact bodyPost_ret (v := .tuple #[.agg #[.int .i64 zk, .int .u64 zb, .int .i64 zbk, .int .i64 zo], .int .i64 E]) (by simp [results, Try.results20, go_sem, *]) rfl ⟨rfl, G.out.set4 0 rfl _ _ _ _⟩
theorem made_5 (op rg ty n fl : Int) (ap : Option Addr) (al ac : Nat) (tp : Option Addr) (tl tc : Nat) (ak ab abk ao bk bb bbk bo ck cb cbk co zk zb zbk zo E : Int) (q4 : (op == 4) = false) (q5 : (op == 5) = true) (c5 : ∀ W, Calls Try.prog 40 #[.agg #[.int .i64 op, .int .i64 rg, .int .i64 ty, .int .i64 n, .int .i64 fl, .slice ap al ac, .slice tp tl tc], .agg #[.int .i64 ak, .int .u64 ab, .int .i64 abk, .int .i64 ao], .agg #[.int .i64 bk, .int .u64 bb, .int .i64 bbk, .int .i64 bo]] W fun e w' => e = .returned (.tuple #[.agg #[.int .i64 zk, .int .u64 zb, .int .i64 zbk, .int .i64 zo], .int .i64 E]) ∧ Below W.heap.size W w') (W : World) :
    Calls Try.prog 20 #[.agg #[.int .i64 op, .int .i64 rg, .int .i64 ty, .int .i64 n, .int .i64 fl, .slice ap al ac, .slice tp tl tc], .agg #[.int .i64 ak, .int .u64 ab, .int .i64 abk, .int .i64 ao], .agg #[.int .i64 bk, .int .u64 bb, .int .i64 bbk, .int .i64 bo], .agg #[.int .i64 ck, .int .u64 cb, .int .i64 cbk, .int .i64 co]] W fun e w' => e = .returned (.tuple #[.agg #[.int .i64 zk, .int .u64 zb, .int .i64 zbk, .int .i64 zo], .int .i64 E]) ∧ Below W.heap.size W w' := by
  have F := ((((((Fr.start W)).push (g := W.heap.size) (by simp) [.int .i64 op, .int .i64 rg, .int .i64 ty, .int .i64 n, .int .i64 fl, .slice ap al ac, .slice tp tl tc] 25).push (g := W.heap.size + 1) (by simp) [.int .i64 ak, .int .u64 ab, .int .i64 abk, .int .i64 ao] 35).push (g := W.heap.size + 1 + 1) (by simp) [.int .i64 bk, .int .u64 bb, .int .i64 bbk, .int .i64 bo] 35).push (g := W.heap.size + 1 + 1 + 1) (by simp) [.int .i64 ck, .int .u64 cb, .int .i64 cbk, .int .i64 co] 35).push (g := W.heap.size + 1 + 1 + 1 + 1) (by simp) [.int .i64 0, .int .u64 0, .int .i64 0, .int .i64 0] 35
  have G := Lib.hid F
  clear F
  go_enter Try.func20, Try.ntmps20
  go_wp2_with (first
    | ((with_reducible refine (c5 _).mono ?_); rintro e w1 ⟨rfl, hb⟩; have F := G.out.later hb; (try clear i0 i1 i2 i3 i4 i5 i6 a0 a1 a2 a3 af b0 b1 b2 b3 bf c0 c1 c2 c3 cf r0 r1 r2 r3 rf); obtain ⟨i0, i1, i2, i3, i4, i5, i6⟩ := F.c7 4 rfl; obtain ⟨a0, a1, a2, a3, af⟩ := F.c4 3 rfl; obtain ⟨b0, b1, b2, b3, bf⟩ := F.c4 2 rfl; obtain ⟨c0, c1, c2, c3, cf⟩ := F.c4 1 rfl; obtain ⟨r0, r1, r2, r3, rf⟩ := F.c4 0 rfl; replace G := Lib.hid F; clear F hb))
  exact bodyPost_ret (v := .tuple #[.agg #[.int .i64 zk, .int .u64 zb, .int .i64 zbk, .int .i64 zo], .int .i64 E]) (by simp [results, Try.results20, go_sem, *]) rfl ⟨rfl, G.out.set4 0 rfl _ _ _ _⟩
theorem made_6 (op rg ty n fl : Int) (ap : Option Addr) (al ac : Nat) (tp : Option Addr) (tl tc : Nat) (ak ab abk ao bk bb bbk bo ck cb cbk co zk zb zbk zo E : Int) (q4 : (op == 4) = false) (q5 : (op == 5) = false) (q6 : (op == 6) = true) (c5 : ∀ W, Calls Try.prog 40 #[.agg #[.int .i64 op, .int .i64 rg, .int .i64 ty, .int .i64 n, .int .i64 fl, .slice ap al ac, .slice tp tl tc], .agg #[.int .i64 ak, .int .u64 ab, .int .i64 abk, .int .i64 ao], .agg #[.int .i64 bk, .int .u64 bb, .int .i64 bbk, .int .i64 bo]] W fun e w' => e = .returned (.tuple #[.agg #[.int .i64 zk, .int .u64 zb, .int .i64 zbk, .int .i64 zo], .int .i64 E]) ∧ Below W.heap.size W w') (W : World) :
    Calls Try.prog 20 #[.agg #[.int .i64 op, .int .i64 rg, .int .i64 ty, .int .i64 n, .int .i64 fl, .slice ap al ac, .slice tp tl tc], .agg #[.int .i64 ak, .int .u64 ab, .int .i64 abk, .int .i64 ao], .agg #[.int .i64 bk, .int .u64 bb, .int .i64 bbk, .int .i64 bo], .agg #[.int .i64 ck, .int .u64 cb, .int .i64 cbk, .int .i64 co]] W fun e w' => e = .returned (.tuple #[.agg #[.int .i64 zk, .int .u64 zb, .int .i64 zbk, .int .i64 zo], .int .i64 E]) ∧ Below W.heap.size W w' := by
  have F := ((((((Fr.start W)).push (g := W.heap.size) (by simp) [.int .i64 op, .int .i64 rg, .int .i64 ty, .int .i64 n, .int .i64 fl, .slice ap al ac, .slice tp tl tc] 25).push (g := W.heap.size + 1) (by simp) [.int .i64 ak, .int .u64 ab, .int .i64 abk, .int .i64 ao] 35).push (g := W.heap.size + 1 + 1) (by simp) [.int .i64 bk, .int .u64 bb, .int .i64 bbk, .int .i64 bo] 35).push (g := W.heap.size + 1 + 1 + 1) (by simp) [.int .i64 ck, .int .u64 cb, .int .i64 cbk, .int .i64 co] 35).push (g := W.heap.size + 1 + 1 + 1 + 1) (by simp) [.int .i64 0, .int .u64 0, .int .i64 0, .int .i64 0] 35
  have G := Lib.hid F
  clear F
  go_enter Try.func20, Try.ntmps20
  go_wp2_with (first
    | ((with_reducible refine (c5 _).mono ?_); rintro e w1 ⟨rfl, hb⟩; have F := G.out.later hb; (try clear i0 i1 i2 i3 i4 i5 i6 a0 a1 a2 a3 af b0 b1 b2 b3 bf c0 c1 c2 c3 cf r0 r1 r2 r3 rf); obtain ⟨i0, i1, i2, i3, i4, i5, i6⟩ := F.c7 4 rfl; obtain ⟨a0, a1, a2, a3, af⟩ := F.c4 3 rfl; obtain ⟨b0, b1, b2, b3, bf⟩ := F.c4 2 rfl; obtain ⟨c0, c1, c2, c3, cf⟩ := F.c4 1 rfl; obtain ⟨r0, r1, r2, r3, rf⟩ := F.c4 0 rfl; replace G := Lib.hid F; clear F hb))
  exact bodyPost_ret (v := .tuple #[.agg #[.int .i64 zk, .int .u64 zb, .int .i64 zbk, .int .i64 zo], .int .i64 E]) (by simp [results, Try.results20, go_sem, *]) rfl ⟨rfl, G.out.set4 0 rfl _ _ _ _⟩
theorem made_7 (op rg ty n fl : Int) (ap : Option Addr) (al ac : Nat) (tp : Option Addr) (tl tc : Nat) (ak ab abk ao bk bb bbk bo ck cb cbk co zk zb zbk zo E : Int) (q4 : (op == 4) = false) (q5 : (op == 5) = false) (q6 : (op == 6) = false) (q7 : (op == 7) = true) (c5 : ∀ W, Calls Try.prog 40 #[.agg #[.int .i64 op, .int .i64 rg, .int .i64 ty, .int .i64 n, .int .i64 fl, .slice ap al ac, .slice tp tl tc], .agg #[.int .i64 ak, .int .u64 ab, .int .i64 abk, .int .i64 ao], .agg #[.int .i64 bk, .int .u64 bb, .int .i64 bbk, .int .i64 bo]] W fun e w' => e = .returned (.tuple #[.agg #[.int .i64 zk, .int .u64 zb, .int .i64 zbk, .int .i64 zo], .int .i64 E]) ∧ Below W.heap.size W w') (W : World) :
    Calls Try.prog 20 #[.agg #[.int .i64 op, .int .i64 rg, .int .i64 ty, .int .i64 n, .int .i64 fl, .slice ap al ac, .slice tp tl tc], .agg #[.int .i64 ak, .int .u64 ab, .int .i64 abk, .int .i64 ao], .agg #[.int .i64 bk, .int .u64 bb, .int .i64 bbk, .int .i64 bo], .agg #[.int .i64 ck, .int .u64 cb, .int .i64 cbk, .int .i64 co]] W fun e w' => e = .returned (.tuple #[.agg #[.int .i64 zk, .int .u64 zb, .int .i64 zbk, .int .i64 zo], .int .i64 E]) ∧ Below W.heap.size W w' := by
  have F := ((((((Fr.start W)).push (g := W.heap.size) (by simp) [.int .i64 op, .int .i64 rg, .int .i64 ty, .int .i64 n, .int .i64 fl, .slice ap al ac, .slice tp tl tc] 25).push (g := W.heap.size + 1) (by simp) [.int .i64 ak, .int .u64 ab, .int .i64 abk, .int .i64 ao] 35).push (g := W.heap.size + 1 + 1) (by simp) [.int .i64 bk, .int .u64 bb, .int .i64 bbk, .int .i64 bo] 35).push (g := W.heap.size + 1 + 1 + 1) (by simp) [.int .i64 ck, .int .u64 cb, .int .i64 cbk, .int .i64 co] 35).push (g := W.heap.size + 1 + 1 + 1 + 1) (by simp) [.int .i64 0, .int .u64 0, .int .i64 0, .int .i64 0] 35
  have G := Lib.hid F
  clear F
  go_enter Try.func20, Try.ntmps20
  go_wp2_with (first
    | ((with_reducible refine (c5 _).mono ?_); rintro e w1 ⟨rfl, hb⟩; have F := G.out.later hb; (try clear i0 i1 i2 i3 i4 i5 i6 a0 a1 a2 a3 af b0 b1 b2 b3 bf c0 c1 c2 c3 cf r0 r1 r2 r3 rf); obtain ⟨i0, i1, i2, i3, i4, i5, i6⟩ := F.c7 4 rfl; obtain ⟨a0, a1, a2, a3, af⟩ := F.c4 3 rfl; obtain ⟨b0, b1, b2, b3, bf⟩ := F.c4 2 rfl; obtain ⟨c0, c1, c2, c3, cf⟩ := F.c4 1 rfl; obtain ⟨r0, r1, r2, r3, rf⟩ := F.c4 0 rfl; replace G := Lib.hid F; clear F hb))
  exact bodyPost_ret (v := .tuple #[.agg #[.int .i64 zk, .int .u64 zb, .int .i64 zbk, .int .i64 zo], .int .i64 E]) (by simp [results, Try.results20, go_sem, *]) rfl ⟨rfl, G.out.set4 0 rfl _ _ _ _⟩
theorem made_11 (op rg ty n fl : Int) (ap : Option Addr) (al ac : Nat) (tp : Option Addr) (tl tc : Nat) (ak ab abk ao bk bb bbk bo ck cb cbk co zk zb zbk zo E : Int) (q4 : (op == 4) = false) (q5 : (op == 5) = false) (q6 : (op == 6) = false) (q7 : (op == 7) = false) (q11 : (op == 11) = true) (c5 : ∀ W, Calls Try.prog 41 #[.agg #[.int .i64 op, .int .i64 rg, .int .i64 ty, .int .i64 n, .int .i64 fl, .slice ap al ac, .slice tp tl tc], .agg #[.int .i64 ak, .int .u64 ab, .int .i64 abk, .int .i64 ao], .agg #[.int .i64 bk, .int .u64 bb, .int .i64 bbk, .int .i64 bo]] W fun e w' => e = .returned (.tuple #[.agg #[.int .i64 zk, .int .u64 zb, .int .i64 zbk, .int .i64 zo], .int .i64 E]) ∧ Below W.heap.size W w') (W : World) :
    Calls Try.prog 20 #[.agg #[.int .i64 op, .int .i64 rg, .int .i64 ty, .int .i64 n, .int .i64 fl, .slice ap al ac, .slice tp tl tc], .agg #[.int .i64 ak, .int .u64 ab, .int .i64 abk, .int .i64 ao], .agg #[.int .i64 bk, .int .u64 bb, .int .i64 bbk, .int .i64 bo], .agg #[.int .i64 ck, .int .u64 cb, .int .i64 cbk, .int .i64 co]] W fun e w' => e = .returned (.tuple #[.agg #[.int .i64 zk, .int .u64 zb, .int .i64 zbk, .int .i64 zo], .int .i64 E]) ∧ Below W.heap.size W w' := by
  have F := ((((((Fr.start W)).push (g := W.heap.size) (by simp) [.int .i64 op, .int .i64 rg, .int .i64 ty, .int .i64 n, .int .i64 fl, .slice ap al ac, .slice tp tl tc] 25).push (g := W.heap.size + 1) (by simp) [.int .i64 ak, .int .u64 ab, .int .i64 abk, .int .i64 ao] 35).push (g := W.heap.size + 1 + 1) (by simp) [.int .i64 bk, .int .u64 bb, .int .i64 bbk, .int .i64 bo] 35).push (g := W.heap.size + 1 + 1 + 1) (by simp) [.int .i64 ck, .int .u64 cb, .int .i64 cbk, .int .i64 co] 35).push (g := W.heap.size + 1 + 1 + 1 + 1) (by simp) [.int .i64 0, .int .u64 0, .int .i64 0, .int .i64 0] 35
  have G := Lib.hid F
  clear F
  go_enter Try.func20, Try.ntmps20
  go_wp2_with (first
    | ((with_reducible refine (c5 _).mono ?_); rintro e w1 ⟨rfl, hb⟩; have F := G.out.later hb; (try clear i0 i1 i2 i3 i4 i5 i6 a0 a1 a2 a3 af b0 b1 b2 b3 bf c0 c1 c2 c3 cf r0 r1 r2 r3 rf); obtain ⟨i0, i1, i2, i3, i4, i5, i6⟩ := F.c7 4 rfl; obtain ⟨a0, a1, a2, a3, af⟩ := F.c4 3 rfl; obtain ⟨b0, b1, b2, b3, bf⟩ := F.c4 2 rfl; obtain ⟨c0, c1, c2, c3, cf⟩ := F.c4 1 rfl; obtain ⟨r0, r1, r2, r3, rf⟩ := F.c4 0 rfl; replace G := Lib.hid F; clear F hb))
  exact bodyPost_ret (v := .tuple #[.agg #[.int .i64 zk, .int .u64 zb, .int .i64 zbk, .int .i64 zo], .int .i64 E]) (by simp [results, Try.results20, go_sem, *]) rfl ⟨rfl, G.out.set4 0 rfl _ _ _ _⟩
theorem made_12 (op rg ty n fl : Int) (ap : Option Addr) (al ac : Nat) (tp : Option Addr) (tl tc : Nat) (ak ab abk ao bk bb bbk bo ck cb cbk co zk zb zbk zo E : Int) (q4 : (op == 4) = false) (q5 : (op == 5) = false) (q6 : (op == 6) = false) (q7 : (op == 7) = false) (q11 : (op == 11) = false) (q12 : (op == 12) = true) (c5 : ∀ W, Calls Try.prog 41 #[.agg #[.int .i64 op, .int .i64 rg, .int .i64 ty, .int .i64 n, .int .i64 fl, .slice ap al ac, .slice tp tl tc], .agg #[.int .i64 ak, .int .u64 ab, .int .i64 abk, .int .i64 ao], .agg #[.int .i64 bk, .int .u64 bb, .int .i64 bbk, .int .i64 bo]] W fun e w' => e = .returned (.tuple #[.agg #[.int .i64 zk, .int .u64 zb, .int .i64 zbk, .int .i64 zo], .int .i64 E]) ∧ Below W.heap.size W w') (W : World) :
    Calls Try.prog 20 #[.agg #[.int .i64 op, .int .i64 rg, .int .i64 ty, .int .i64 n, .int .i64 fl, .slice ap al ac, .slice tp tl tc], .agg #[.int .i64 ak, .int .u64 ab, .int .i64 abk, .int .i64 ao], .agg #[.int .i64 bk, .int .u64 bb, .int .i64 bbk, .int .i64 bo], .agg #[.int .i64 ck, .int .u64 cb, .int .i64 cbk, .int .i64 co]] W fun e w' => e = .returned (.tuple #[.agg #[.int .i64 zk, .int .u64 zb, .int .i64 zbk, .int .i64 zo], .int .i64 E]) ∧ Below W.heap.size W w' := by
  have F := ((((((Fr.start W)).push (g := W.heap.size) (by simp) [.int .i64 op, .int .i64 rg, .int .i64 ty, .int .i64 n, .int .i64 fl, .slice ap al ac, .slice tp tl tc] 25).push (g := W.heap.size + 1) (by simp) [.int .i64 ak, .int .u64 ab, .int .i64 abk, .int .i64 ao] 35).push (g := W.heap.size + 1 + 1) (by simp) [.int .i64 bk, .int .u64 bb, .int .i64 bbk, .int .i64 bo] 35).push (g := W.heap.size + 1 + 1 + 1) (by simp) [.int .i64 ck, .int .u64 cb, .int .i64 cbk, .int .i64 co] 35).push (g := W.heap.size + 1 + 1 + 1 + 1) (by simp) [.int .i64 0, .int .u64 0, .int .i64 0, .int .i64 0] 35
  have G := Lib.hid F
  clear F
  go_enter Try.func20, Try.ntmps20
  go_wp2_with (first
    | ((with_reducible refine (c5 _).mono ?_); rintro e w1 ⟨rfl, hb⟩; have F := G.out.later hb; (try clear i0 i1 i2 i3 i4 i5 i6 a0 a1 a2 a3 af b0 b1 b2 b3 bf c0 c1 c2 c3 cf r0 r1 r2 r3 rf); obtain ⟨i0, i1, i2, i3, i4, i5, i6⟩ := F.c7 4 rfl; obtain ⟨a0, a1, a2, a3, af⟩ := F.c4 3 rfl; obtain ⟨b0, b1, b2, b3, bf⟩ := F.c4 2 rfl; obtain ⟨c0, c1, c2, c3, cf⟩ := F.c4 1 rfl; obtain ⟨r0, r1, r2, r3, rf⟩ := F.c4 0 rfl; replace G := Lib.hid F; clear F hb))
  exact bodyPost_ret (v := .tuple #[.agg #[.int .i64 zk, .int .u64 zb, .int .i64 zbk, .int .i64 zo], .int .i64 E]) (by simp [results, Try.results20, go_sem, *]) rfl ⟨rfl, G.out.set4 0 rfl _ _ _ _⟩
theorem made_13 (op rg ty n fl : Int) (ap : Option Addr) (al ac : Nat) (tp : Option Addr) (tl tc : Nat) (ak ab abk ao bk bb bbk bo ck cb cbk co zk zb zbk zo E : Int) (q4 : (op == 4) = false) (q5 : (op == 5) = false) (q6 : (op == 6) = false) (q7 : (op == 7) = false) (q11 : (op == 11) = false) (q12 : (op == 12) = false) (q13 : (op == 13) = true) (c5 : ∀ W, Calls Try.prog 41 #[.agg #[.int .i64 op, .int .i64 rg, .int .i64 ty, .int .i64 n, .int .i64 fl, .slice ap al ac, .slice tp tl tc], .agg #[.int .i64 ak, .int .u64 ab, .int .i64 abk, .int .i64 ao], .agg #[.int .i64 bk, .int .u64 bb, .int .i64 bbk, .int .i64 bo]] W fun e w' => e = .returned (.tuple #[.agg #[.int .i64 zk, .int .u64 zb, .int .i64 zbk, .int .i64 zo], .int .i64 E]) ∧ Below W.heap.size W w') (W : World) :
    Calls Try.prog 20 #[.agg #[.int .i64 op, .int .i64 rg, .int .i64 ty, .int .i64 n, .int .i64 fl, .slice ap al ac, .slice tp tl tc], .agg #[.int .i64 ak, .int .u64 ab, .int .i64 abk, .int .i64 ao], .agg #[.int .i64 bk, .int .u64 bb, .int .i64 bbk, .int .i64 bo], .agg #[.int .i64 ck, .int .u64 cb, .int .i64 cbk, .int .i64 co]] W fun e w' => e = .returned (.tuple #[.agg #[.int .i64 zk, .int .u64 zb, .int .i64 zbk, .int .i64 zo], .int .i64 E]) ∧ Below W.heap.size W w' := by
  have F := ((((((Fr.start W)).push (g := W.heap.size) (by simp) [.int .i64 op, .int .i64 rg, .int .i64 ty, .int .i64 n, .int .i64 fl, .slice ap al ac, .slice tp tl tc] 25).push (g := W.heap.size + 1) (by simp) [.int .i64 ak, .int .u64 ab, .int .i64 abk, .int .i64 ao] 35).push (g := W.heap.size + 1 + 1) (by simp) [.int .i64 bk, .int .u64 bb, .int .i64 bbk, .int .i64 bo] 35).push (g := W.heap.size + 1 + 1 + 1) (by simp) [.int .i64 ck, .int .u64 cb, .int .i64 cbk, .int .i64 co] 35).push (g := W.heap.size + 1 + 1 + 1 + 1) (by simp) [.int .i64 0, .int .u64 0, .int .i64 0, .int .i64 0] 35
  have G := Lib.hid F
  clear F
  go_enter Try.func20, Try.ntmps20
  go_wp2_with (first
    | ((with_reducible refine (c5 _).mono ?_); rintro e w1 ⟨rfl, hb⟩; have F := G.out.later hb; (try clear i0 i1 i2 i3 i4 i5 i6 a0 a1 a2 a3 af b0 b1 b2 b3 bf c0 c1 c2 c3 cf r0 r1 r2 r3 rf); obtain ⟨i0, i1, i2, i3, i4, i5, i6⟩ := F.c7 4 rfl; obtain ⟨a0, a1, a2, a3, af⟩ := F.c4 3 rfl; obtain ⟨b0, b1, b2, b3, bf⟩ := F.c4 2 rfl; obtain ⟨c0, c1, c2, c3, cf⟩ := F.c4 1 rfl; obtain ⟨r0, r1, r2, r3, rf⟩ := F.c4 0 rfl; replace G := Lib.hid F; clear F hb))
  exact bodyPost_ret (v := .tuple #[.agg #[.int .i64 zk, .int .u64 zb, .int .i64 zbk, .int .i64 zo], .int .i64 E]) (by simp [results, Try.results20, go_sem, *]) rfl ⟨rfl, G.out.set4 0 rfl _ _ _ _⟩
theorem made_20 (op rg ty n fl : Int) (ap : Option Addr) (al ac : Nat) (tp : Option Addr) (tl tc : Nat) (ak ab abk ao bk bb bbk bo ck cb cbk co zk zb zbk zo E : Int) (q4 : (op == 4) = false) (q5 : (op == 5) = false) (q6 : (op == 6) = false) (q7 : (op == 7) = false) (q11 : (op == 11) = false) (q12 : (op == 12) = false) (q13 : (op == 13) = false) (q20 : (op == 20) = true) (c5 : ∀ W, Calls Try.prog 42 #[.agg #[.int .i64 op, .int .i64 rg, .int .i64 ty, .int .i64 n, .int .i64 fl, .slice ap al ac, .slice tp tl tc], .agg #[.int .i64 ak, .int .u64 ab, .int .i64 abk, .int .i64 ao]] W fun e w' => e = .returned (.agg #[.int .i64 zk, .int .u64 zb, .int .i64 zbk, .int .i64 zo]) ∧ Below W.heap.size W w') (W : World) :
    Calls Try.prog 20 #[.agg #[.int .i64 op, .int .i64 rg, .int .i64 ty, .int .i64 n, .int .i64 fl, .slice ap al ac, .slice tp tl tc], .agg #[.int .i64 ak, .int .u64 ab, .int .i64 abk, .int .i64 ao], .agg #[.int .i64 bk, .int .u64 bb, .int .i64 bbk, .int .i64 bo], .agg #[.int .i64 ck, .int .u64 cb, .int .i64 cbk, .int .i64 co]] W fun e w' => e = .returned (.tuple #[.agg #[.int .i64 zk, .int .u64 zb, .int .i64 zbk, .int .i64 zo], .int .i64 0]) ∧ Below W.heap.size W w' := by
  have F := ((((((Fr.start W)).push (g := W.heap.size) (by simp) [.int .i64 op, .int .i64 rg, .int .i64 ty, .int .i64 n, .int .i64 fl, .slice ap al ac, .slice tp tl tc] 25).push (g := W.heap.size + 1) (by simp) [.int .i64 ak, .int .u64 ab, .int .i64 abk, .int .i64 ao] 35).push (g := W.heap.size + 1 + 1) (by simp) [.int .i64 bk, .int .u64 bb, .int .i64 bbk, .int .i64 bo] 35).push (g := W.heap.size + 1 + 1 + 1) (by simp) [.int .i64 ck, .int .u64 cb, .int .i64 cbk, .int .i64 co] 35).push (g := W.heap.size + 1 + 1 + 1 + 1) (by simp) [.int .i64 0, .int .u64 0, .int .i64 0, .int .i64 0] 35
  have G := Lib.hid F
  clear F
  go_enter Try.func20, Try.ntmps20
  go_wp2_with (first
    | ((with_reducible refine (c5 _).mono ?_); rintro e w1 ⟨rfl, hb⟩; have F := G.out.later hb; (try clear i0 i1 i2 i3 i4 i5 i6 a0 a1 a2 a3 af b0 b1 b2 b3 bf c0 c1 c2 c3 cf r0 r1 r2 r3 rf); obtain ⟨i0, i1, i2, i3, i4, i5, i6⟩ := F.c7 4 rfl; obtain ⟨a0, a1, a2, a3, af⟩ := F.c4 3 rfl; obtain ⟨b0, b1, b2, b3, bf⟩ := F.c4 2 rfl; obtain ⟨c0, c1, c2, c3, cf⟩ := F.c4 1 rfl; obtain ⟨r0, r1, r2, r3, rf⟩ := F.c4 0 rfl; replace G := Lib.hid F; clear F hb))
  exact bodyPost_ret (v := .tuple #[.agg #[.int .i64 zk, .int .u64 zb, .int .i64 zbk, .int .i64 zo], .int .i64 0]) (by simp [results, Try.results20, go_sem, *]) rfl ⟨rfl, G.out.set4 0 rfl _ _ _ _⟩
theorem made_21 (op rg ty n fl : Int) (ap : Option Addr) (al ac : Nat) (tp : Option Addr) (tl tc : Nat) (ak ab abk ao bk bb bbk bo ck cb cbk co zk zb zbk zo E : Int) (q4 : (op == 4) = false) (q5 : (op == 5) = false) (q6 : (op == 6) = false) (q7 : (op == 7) = false) (q11 : (op == 11) = false) (q12 : (op == 12) = false) (q13 : (op == 13) = false) (q20 : (op == 20) = false) (q21 : (op == 21) = true) (c5 : ∀ W, Calls Try.prog 42 #[.agg #[.int .i64 op, .int .i64 rg, .int .i64 ty, .int .i64 n, .int .i64 fl, .slice ap al ac, .slice tp tl tc], .agg #[.int .i64 ak, .int .u64 ab, .int .i64 abk, .int .i64 ao]] W fun e w' => e = .returned (.agg #[.int .i64 zk, .int .u64 zb, .int .i64 zbk, .int .i64 zo]) ∧ Below W.heap.size W w') (W : World) :
    Calls Try.prog 20 #[.agg #[.int .i64 op, .int .i64 rg, .int .i64 ty, .int .i64 n, .int .i64 fl, .slice ap al ac, .slice tp tl tc], .agg #[.int .i64 ak, .int .u64 ab, .int .i64 abk, .int .i64 ao], .agg #[.int .i64 bk, .int .u64 bb, .int .i64 bbk, .int .i64 bo], .agg #[.int .i64 ck, .int .u64 cb, .int .i64 cbk, .int .i64 co]] W fun e w' => e = .returned (.tuple #[.agg #[.int .i64 zk, .int .u64 zb, .int .i64 zbk, .int .i64 zo], .int .i64 0]) ∧ Below W.heap.size W w' := by
  have F := ((((((Fr.start W)).push (g := W.heap.size) (by simp) [.int .i64 op, .int .i64 rg, .int .i64 ty, .int .i64 n, .int .i64 fl, .slice ap al ac, .slice tp tl tc] 25).push (g := W.heap.size + 1) (by simp) [.int .i64 ak, .int .u64 ab, .int .i64 abk, .int .i64 ao] 35).push (g := W.heap.size + 1 + 1) (by simp) [.int .i64 bk, .int .u64 bb, .int .i64 bbk, .int .i64 bo] 35).push (g := W.heap.size + 1 + 1 + 1) (by simp) [.int .i64 ck, .int .u64 cb, .int .i64 cbk, .int .i64 co] 35).push (g := W.heap.size + 1 + 1 + 1 + 1) (by simp) [.int .i64 0, .int .u64 0, .int .i64 0, .int .i64 0] 35
  have G := Lib.hid F
  clear F
  go_enter Try.func20, Try.ntmps20
  go_wp2_with (first
    | ((with_reducible refine (c5 _).mono ?_); rintro e w1 ⟨rfl, hb⟩; have F := G.out.later hb; (try clear i0 i1 i2 i3 i4 i5 i6 a0 a1 a2 a3 af b0 b1 b2 b3 bf c0 c1 c2 c3 cf r0 r1 r2 r3 rf); obtain ⟨i0, i1, i2, i3, i4, i5, i6⟩ := F.c7 4 rfl; obtain ⟨a0, a1, a2, a3, af⟩ := F.c4 3 rfl; obtain ⟨b0, b1, b2, b3, bf⟩ := F.c4 2 rfl; obtain ⟨c0, c1, c2, c3, cf⟩ := F.c4 1 rfl; obtain ⟨r0, r1, r2, r3, rf⟩ := F.c4 0 rfl; replace G := Lib.hid F; clear F hb))
  exact bodyPost_ret (v := .tuple #[.agg #[.int .i64 zk, .int .u64 zb, .int .i64 zbk, .int .i64 zo], .int .i64 0]) (by simp [results, Try.results20, go_sem, *]) rfl ⟨rfl, G.out.set4 0 rfl _ _ _ _⟩
theorem made_22 (op rg ty n fl : Int) (ap : Option Addr) (al ac : Nat) (tp : Option Addr) (tl tc : Nat) (ak ab abk ao bk bb bbk bo ck cb cbk co zk zb zbk zo E : Int) (q4 : (op == 4) = false) (q5 : (op == 5) = false) (q6 : (op == 6) = false) (q7 : (op == 7) = false) (q11 : (op == 11) = false) (q12 : (op == 12) = false) (q13 : (op == 13) = false) (q20 : (op == 20) = false) (q21 : (op == 21) = false) (q22 : (op == 22) = true) (c5 : ∀ W, Calls Try.prog 42 #[.agg #[.int .i64 op, .int .i64 rg, .int .i64 ty, .int .i64 n, .int .i64 fl, .slice ap al ac, .slice tp tl tc], .agg #[.int .i64 ak, .int .u64 ab, .int .i64 abk, .int .i64 ao]] W fun e w' => e = .returned (.agg #[.int .i64 zk, .int .u64 zb, .int .i64 zbk, .int .i64 zo]) ∧ Below W.heap.size W w') (W : World) :
    Calls Try.prog 20 #[.agg #[.int .i64 op, .int .i64 rg, .int .i64 ty, .int .i64 n, .int .i64 fl, .slice ap al ac, .slice tp tl tc], .agg #[.int .i64 ak, .int .u64 ab, .int .i64 abk, .int .i64 ao], .agg #[.int .i64 bk, .int .u64 bb, .int .i64 bbk, .int .i64 bo], .agg #[.int .i64 ck, .int .u64 cb, .int .i64 cbk, .int .i64 co]] W fun e w' => e = .returned (.tuple #[.agg #[.int .i64 zk, .int .u64 zb, .int .i64 zbk, .int .i64 zo], .int .i64 0]) ∧ Below W.heap.size W w' := by
  have F := ((((((Fr.start W)).push (g := W.heap.size) (by simp) [.int .i64 op, .int .i64 rg, .int .i64 ty, .int .i64 n, .int .i64 fl, .slice ap al ac, .slice tp tl tc] 25).push (g := W.heap.size + 1) (by simp) [.int .i64 ak, .int .u64 ab, .int .i64 abk, .int .i64 ao] 35).push (g := W.heap.size + 1 + 1) (by simp) [.int .i64 bk, .int .u64 bb, .int .i64 bbk, .int .i64 bo] 35).push (g := W.heap.size + 1 + 1 + 1) (by simp) [.int .i64 ck, .int .u64 cb, .int .i64 cbk, .int .i64 co] 35).push (g := W.heap.size + 1 + 1 + 1 + 1) (by simp) [.int .i64 0, .int .u64 0, .int .i64 0, .int .i64 0] 35
  have G := Lib.hid F
  clear F
  go_enter Try.func20, Try.ntmps20
  go_wp2_with (first
    | ((with_reducible refine (c5 _).mono ?_); rintro e w1 ⟨rfl, hb⟩; have F := G.out.later hb; (try clear i0 i1 i2 i3 i4 i5 i6 a0 a1 a2 a3 af b0 b1 b2 b3 bf c0 c1 c2 c3 cf r0 r1 r2 r3 rf); obtain ⟨i0, i1, i2, i3, i4, i5, i6⟩ := F.c7 4 rfl; obtain ⟨a0, a1, a2, a3, af⟩ := F.c4 3 rfl; obtain ⟨b0, b1, b2, b3, bf⟩ := F.c4 2 rfl; obtain ⟨c0, c1, c2, c3, cf⟩ := F.c4 1 rfl; obtain ⟨r0, r1, r2, r3, rf⟩ := F.c4 0 rfl; replace G := Lib.hid F; clear F hb))
  exact bodyPost_ret (v := .tuple #[.agg #[.int .i64 zk, .int .u64 zb, .int .i64 zbk, .int .i64 zo], .int .i64 0]) (by simp [results, Try.results20, go_sem, *]) rfl ⟨rfl, G.out.set4 0 rfl _ _ _ _⟩
theorem made_23 (op rg ty n fl : Int) (ap : Option Addr) (al ac : Nat) (tp : Option Addr) (tl tc : Nat) (ak ab abk ao bk bb bbk bo ck cb cbk co zk zb zbk zo E : Int) (q4 : (op == 4) = false) (q5 : (op == 5) = false) (q6 : (op == 6) = false) (q7 : (op == 7) = false) (q11 : (op == 11) = false) (q12 : (op == 12) = false) (q13 : (op == 13) = false) (q20 : (op == 20) = false) (q21 : (op == 21) = false) (q22 : (op == 22) = false) (q23 : (op == 23) = true) (c5 : ∀ W, Calls Try.prog 43 #[.agg #[.int .i64 ak, .int .u64 ab, .int .i64 abk, .int .i64 ao], .agg #[.int .i64 bk, .int .u64 bb, .int .i64 bbk, .int .i64 bo], .agg #[.int .i64 ck, .int .u64 cb, .int .i64 cbk, .int .i64 co]] W fun e w' => e = .returned (.agg #[.int .i64 zk, .int .u64 zb, .int .i64 zbk, .int .i64 zo]) ∧ Below W.heap.size W w') (W : World) :
    Calls Try.prog 20 #[.agg #[.int .i64 op, .int .i64 rg, .int .i64 ty, .int .i64 n, .int .i64 fl, .slice ap al ac, .slice tp tl tc], .agg #[.int .i64 ak, .int .u64 ab, .int .i64 abk, .int .i64 ao], .agg #[.int .i64 bk, .int .u64 bb, .int .i64 bbk, .int .i64 bo], .agg #[.int .i64 ck, .int .u64 cb, .int .i64 cbk, .int .i64 co]] W fun e w' => e = .returned (.tuple #[.agg #[.int .i64 zk, .int .u64 zb, .int .i64 zbk, .int .i64 zo], .int .i64 0]) ∧ Below W.heap.size W w' := by
  have F := ((((((Fr.start W)).push (g := W.heap.size) (by simp) [.int .i64 op, .int .i64 rg, .int .i64 ty, .int .i64 n, .int .i64 fl, .slice ap al ac, .slice tp tl tc] 25).push (g := W.heap.size + 1) (by simp) [.int .i64 ak, .int .u64 ab, .int .i64 abk, .int .i64 ao] 35).push (g := W.heap.size + 1 + 1) (by simp) [.int .i64 bk, .int .u64 bb, .int .i64 bbk, .int .i64 bo] 35).push (g := W.heap.size + 1 + 1 + 1) (by simp) [.int .i64 ck, .int .u64 cb, .int .i64 cbk, .int .i64 co] 35).push (g := W.heap.size + 1 + 1 + 1 + 1) (by simp) [.int .i64 0, .int .u64 0, .int .i64 0, .int .i64 0] 35
  have G := Lib.hid F
  clear F
  go_enter Try.func20, Try.ntmps20
  go_wp2_with (first
    | ((with_reducible refine (c5 _).mono ?_); rintro e w1 ⟨rfl, hb⟩; have F := G.out.later hb; (try clear i0 i1 i2 i3 i4 i5 i6 a0 a1 a2 a3 af b0 b1 b2 b3 bf c0 c1 c2 c3 cf r0 r1 r2 r3 rf); obtain ⟨i0, i1, i2, i3, i4, i5, i6⟩ := F.c7 4 rfl; obtain ⟨a0, a1, a2, a3, af⟩ := F.c4 3 rfl; obtain ⟨b0, b1, b2, b3, bf⟩ := F.c4 2 rfl; obtain ⟨c0, c1, c2, c3, cf⟩ := F.c4 1 rfl; obtain ⟨r0, r1, r2, r3, rf⟩ := F.c4 0 rfl; replace G := Lib.hid F; clear F hb))
  exact bodyPost_ret (v := .tuple #[.agg #[.int .i64 zk, .int .u64 zb, .int .i64 zbk, .int .i64 zo], .int .i64 0]) (by simp [results, Try.results20, go_sem, *]) rfl ⟨rfl, G.out.set4 0 rfl _ _ _ _⟩
theorem made_24 (op rg ty n fl : Int) (ap : Option Addr) (al ac : Nat) (tp : Option Addr) (tl tc : Nat) (ak ab abk ao bk bb bbk bo ck cb cbk co zk zb zbk zo E : Int) (q4 : (op == 4) = false) (q5 : (op == 5) = false) (q6 : (op == 6) = false) (q7 : (op == 7) = false) (q11 : (op == 11) = false) (q12 : (op == 12) = false) (q13 : (op == 13) = false) (q20 : (op == 20) = false) (q21 : (op == 21) = false) (q22 : (op == 22) = false) (q23 : (op == 23) = false) (q24 : (op == 24) = true) (c5 : ∀ W, Calls Try.prog 44 #[.agg #[.int .i64 ak, .int .u64 ab, .int .i64 abk, .int .i64 ao]] W fun e w' => e = .returned (.agg #[.int .i64 zk, .int .u64 zb, .int .i64 zbk, .int .i64 zo]) ∧ Below W.heap.size W w') (W : World) :
    Calls Try.prog 20 #[.agg #[.int .i64 op, .int .i64 rg, .int .i64 ty, .int .i64 n, .int .i64 fl, .slice ap al ac, .slice tp tl tc], .agg #[.int .i64 ak, .int .u64 ab, .int .i64 abk, .int .i64 ao], .agg #[.int .i64 bk, .int .u64 bb, .int .i64 bbk, .int .i64 bo], .agg #[.int .i64 ck, .int .u64 cb, .int .i64 cbk, .int .i64 co]] W fun e w' => e = .returned (.tuple #[.agg #[.int .i64 zk, .int .u64 zb, .int .i64 zbk, .int .i64 zo], .int .i64 0]) ∧ Below W.heap.size W w' := by
  have F := ((((((Fr.start W)).push (g := W.heap.size) (by simp) [.int .i64 op, .int .i64 rg, .int .i64 ty, .int .i64 n, .int .i64 fl, .slice ap al ac, .slice tp tl tc] 25).push (g := W.heap.size + 1) (by simp) [.int .i64 ak, .int .u64 ab, .int .i64 abk, .int .i64 ao] 35).push (g := W.heap.size + 1 + 1) (by simp) [.int .i64 bk, .int .u64 bb, .int .i64 bbk, .int .i64 bo] 35).push (g := W.heap.size + 1 + 1 + 1) (by simp) [.int .i64 ck, .int .u64 cb, .int .i64 cbk, .int .i64 co] 35).push (g := W.heap.size + 1 + 1 + 1 + 1) (by simp) [.int .i64 0, .int .u64 0, .int .i64 0, .int .i64 0] 35
  have G := Lib.hid F
  clear F
  go_enter Try.func20, Try.ntmps20
  go_wp2_with (first
    | ((with_reducible refine (c5 _).mono ?_); rintro e w1 ⟨rfl, hb⟩; have F := G.out.later hb; (try clear i0 i1 i2 i3 i4 i5 i6 a0 a1 a2 a3 af b0 b1 b2 b3 bf c0 c1 c2 c3 cf r0 r1 r2 r3 rf); obtain ⟨i0, i1, i2, i3, i4, i5, i6⟩ := F.c7 4 rfl; obtain ⟨a0, a1, a2, a3, af⟩ := F.c4 3 rfl; obtain ⟨b0, b1, b2, b3, bf⟩ := F.c4 2 rfl; obtain ⟨c0, c1, c2, c3, cf⟩ := F.c4 1 rfl; obtain ⟨r0, r1, r2, r3, rf⟩ := F.c4 0 rfl; replace G := Lib.hid F; clear F hb))
  exact bodyPost_ret (v := .tuple #[.agg #[.int .i64 zk, .int .u64 zb, .int .i64 zbk, .int .i64 zo], .int .i64 0]) (by simp [results, Try.results20, go_sem, *]) rfl ⟨rfl, G.out.set4 0 rfl _ _ _ _⟩
theorem made_29 (op rg ty n fl : Int) (ap : Option Addr) (al ac : Nat) (tp : Option Addr) (tl tc : Nat) (ak ab abk ao bk bb bbk bo ck cb cbk co zk zb zbk zo E : Int) (q4 : (op == 4) = false) (q5 : (op == 5) = false) (q6 : (op == 6) = false) (q7 : (op == 7) = false) (q11 : (op == 11) = false) (q12 : (op == 12) = false) (q13 : (op == 13) = false) (q20 : (op == 20) = false) (q21 : (op == 21) = false) (q22 : (op == 22) = false) (q23 : (op == 23) = false) (q24 : (op == 24) = false) (q29 : (op == 29) = true) (c5 : ∀ W, Calls Try.prog 45 #[.agg #[.int .i64 ak, .int .u64 ab, .int .i64 abk, .int .i64 ao], .agg #[.int .i64 bk, .int .u64 bb, .int .i64 bbk, .int .i64 bo]] W fun e w' => e = .returned (.agg #[.int .i64 zk, .int .u64 zb, .int .i64 zbk, .int .i64 zo]) ∧ Below W.heap.size W w') (W : World) :
    Calls Try.prog 20 #[.agg #[.int .i64 op, .int .i64 rg, .int .i64 ty, .int .i64 n, .int .i64 fl, .slice ap al ac, .slice tp tl tc], .agg #[.int .i64 ak, .int .u64 ab, .int .i64 abk, .int .i64 ao], .agg #[.int .i64 bk, .int .u64 bb, .int .i64 bbk, .int .i64 bo], .agg #[.int .i64 ck, .int .u64 cb, .int .i64 cbk, .int .i64 co]] W fun e w' => e = .returned (.tuple #[.agg #[.int .i64 zk, .int .u64 zb, .int .i64 zbk, .int .i64 zo], .int .i64 0]) ∧ Below W.heap.size W w' := by
  have F := ((((((Fr.start W)).push (g := W.heap.size) (by simp) [.int .i64 op, .int .i64 rg, .int .i64 ty, .int .i64 n, .int .i64 fl, .slice ap al ac, .slice tp tl tc] 25).push (g := W.heap.size + 1) (by simp) [.int .i64 ak, .int .u64 ab, .int .i64 abk, .int .i64 ao] 35).push (g := W.heap.size + 1 + 1) (by simp) [.int .i64 bk, .int .u64 bb, .int .i64 bbk, .int .i64 bo] 35).push (g := W.heap.size + 1 + 1 + 1) (by simp) [.int .i64 ck, .int .u64 cb, .int .i64 cbk, .int .i64 co] 35).push (g := W.heap.size + 1 + 1 + 1 + 1) (by simp) [.int .i64 0, .int .u64 0, .int .i64 0, .int .i64 0] 35
  have G := Lib.hid F
  clear F
  go_enter Try.func20, Try.ntmps20
  go_wp2_with (first
    | ((with_reducible refine (c5 _).mono ?_); rintro e w1 ⟨rfl, hb⟩; have F := G.out.later hb; (try clear i0 i1 i2 i3 i4 i5 i6 a0 a1 a2 a3 af b0 b1 b2 b3 bf c0 c1 c2 c3 cf r0 r1 r2 r3 rf); obtain ⟨i0, i1, i2, i3, i4, i5, i6⟩ := F.c7 4 rfl; obtain ⟨a0, a1, a2, a3, af⟩ := F.c4 3 rfl; obtain ⟨b0, b1, b2, b3, bf⟩ := F.c4 2 rfl; obtain ⟨c0, c1, c2, c3, cf⟩ := F.c4 1 rfl; obtain ⟨r0, r1, r2, r3, rf⟩ := F.c4 0 rfl; replace G := Lib.hid F; clear F hb))
  exact bodyPost_ret (v := .tuple #[.agg #[.int .i64 zk, .int .u64 zb, .int .i64 zbk, .int .i64 zo], .int .i64 0]) (by simp [results, Try.results20, go_sem, *]) rfl ⟨rfl, G.out.set4 0 rfl _ _ _ _⟩
theorem made_j (op rg ty n fl : Int) (ap : Option Addr) (al ac : Nat) (tp : Option Addr) (tl tc : Nat) (ak ab abk ao bk bb bbk bo ck cb cbk co zk zb zbk zo E : Int) (q4 : (op == 4) = false) (q5 : (op == 5) = false) (q6 : (op == 6) = false) (q7 : (op == 7) = false) (q11 : (op == 11) = false) (q12 : (op == 12) = false) (q13 : (op == 13) = false) (q20 : (op == 20) = false) (q21 : (op == 21) = false) (q22 : (op == 22) = false) (q23 : (op == 23) = false) (q24 : (op == 24) = false) (q29 : (op == 29) = false) (c5 : ∀ W, Calls Try.prog 46 #[.agg #[.int .i64 op, .int .i64 rg, .int .i64 ty, .int .i64 n, .int .i64 fl, .slice ap al ac, .slice tp tl tc], .agg #[.int .i64 ak, .int .u64 ab, .int .i64 abk, .int .i64 ao], .agg #[.int .i64 bk, .int .u64 bb, .int .i64 bbk, .int .i64 bo]] W fun e w' => e = .returned (.tuple #[.agg #[.int .i64 zk, .int .u64 zb, .int .i64 zbk, .int .i64 zo], .int .i64 E]) ∧ Below W.heap.size W w') (W : World) :
    Calls Try.prog 20 #[.agg #[.int .i64 op, .int .i64 rg, .int .i64 ty, .int .i64 n, .int .i64 fl, .slice ap al ac, .slice tp tl tc], .agg #[.int .i64 ak, .int .u64 ab, .int .i64 abk, .int .i64 ao], .agg #[.int .i64 bk, .int .u64 bb, .int .i64 bbk, .int .i64 bo], .agg #[.int .i64 ck, .int .u64 cb, .int .i64 cbk, .int .i64 co]] W fun e w' => e = .returned (.tuple #[.agg #[.int .i64 zk, .int .u64 zb, .int .i64 zbk, .int .i64 zo], .int .i64 E]) ∧ Below W.heap.size W w' := by
  have F := ((((((Fr.start W)).push (g := W.heap.size) (by simp) [.int .i64 op, .int .i64 rg, .int .i64 ty, .int .i64 n, .int .i64 fl, .slice ap al ac, .slice tp tl tc] 25).push (g := W.heap.size + 1) (by simp) [.int .i64 ak, .int .u64 ab, .int .i64 abk, .int .i64 ao] 35).push (g := W.heap.size + 1 + 1) (by simp) [.int .i64 bk, .int .u64 bb, .int .i64 bbk, .int .i64 bo] 35).push (g := W.heap.size + 1 + 1 + 1) (by simp) [.int .i64 ck, .int .u64 cb, .int .i64 cbk, .int .i64 co] 35).push (g := W.heap.size + 1 + 1 + 1 + 1) (by simp) [.int .i64 0, .int .u64 0, .int .i64 0, .int .i64 0] 35
  have G := Lib.hid F
  clear F
  go_enter Try.func20, Try.ntmps20
  go_wp2_with (first
    | ((with_reducible refine (c5 _).mono ?_); rintro e w1 ⟨rfl, hb⟩; have F := G.out.later hb; (try clear i0 i1 i2 i3 i4 i5 i6 a0 a1 a2 a3 af b0 b1 b2 b3 bf c0 c1 c2 c3 cf r0 r1 r2 r3 rf); obtain ⟨i0, i1, i2, i3, i4, i5, i6⟩ := F.c7 4 rfl; obtain ⟨a0, a1, a2, a3, af⟩ := F.c4 3 rfl; obtain ⟨b0, b1, b2, b3, bf⟩ := F.c4 2 rfl; obtain ⟨c0, c1, c2, c3, cf⟩ := F.c4 1 rfl; obtain ⟨r0, r1, r2, r3, rf⟩ := F.c4 0 rfl; replace G := Lib.hid F; clear F hb))
  exact bodyPost_ret (v := .tuple #[.agg #[.int .i64 zk, .int .u64 zb, .int .i64 zbk, .int .i64 zo], .int .i64 E]) (by simp [results, Try.results20, go_sem, *]) rfl ⟨rfl, G.out.set4 0 rfl _ _ _ _⟩
theorem made_any (d : Ins) (a b c : EV) (hf : frmE d.op d.ty d.n d.fl = true) (f0 : -9223372036854775808 ≤ d.fl) (f1 : d.fl ≤ 9223372036854775807) (fa : Fit (wntE d.op d.ty d.n 0) a) (fb : Fit (wntE d.op d.ty d.n 1) b) (W : World) :
    Calls Try.prog 20 #[d.val, a.vl.val, b.vl.val, c.vl.val] W fun e w' => e = .returned (.tuple #[(madE d.op d.ty d.n d.fl a b c).1.vl.val, .int .i64 (madE d.op d.ty d.n d.fl a b c).2]) ∧ Below W.heap.size W w' := by
  have hfl : bits .andNot .i64 d.fl (flg d.op) = 0 := by
    unfold frmE at hf
    simp at hf
    exact hf.1
  have hty : typE d.op d.ty d.n = true := by
    unfold frmE at hf
    simp at hf
    exact hf.2
  unfold madE
  by_cases h1 : d.op = 4 ∨ d.op = 5 ∨ d.op = 6 ∨ d.op = 7
  · rw [if_pos h1]
    rw [wnt_ty (by omega) (by omega) (by omega)] at fa fb
    have hw : isW d.ty = true := by
      unfold typE at hty
      rw [if_neg (by omega), if_neg (by omega), if_neg (by omega)] at hty
      simp at hty
      exact isW_iff.2 hty.2
    have c5 := fun W => divided_any d a b fa fb h1 hw f0 f1 hfl W
    obtain ⟨op, rg, ty, n, fl, ap, al, ac, tp, tl, tc, ars⟩ := d
    simp only at h1 c5 ⊢
    rcases h1 with rfl | rfl | rfl | rfl
    · exact made_4 4 rg ty n fl ap al ac tp tl tc a.vl.k a.vl.b a.vl.bk a.vl.o b.vl.k b.vl.b b.vl.bk b.vl.o c.vl.k c.vl.b c.vl.bk c.vl.o _ _ _ _ _ rfl c5 W
    · exact made_5 5 rg ty n fl ap al ac tp tl tc a.vl.k a.vl.b a.vl.bk a.vl.o b.vl.k b.vl.b b.vl.bk b.vl.o c.vl.k c.vl.b c.vl.bk c.vl.o _ _ _ _ _ rfl rfl c5 W
    · exact made_6 6 rg ty n fl ap al ac tp tl tc a.vl.k a.vl.b a.vl.bk a.vl.o b.vl.k b.vl.b b.vl.bk b.vl.o c.vl.k c.vl.b c.vl.bk c.vl.o _ _ _ _ _ rfl rfl rfl c5 W
    · exact made_7 7 rg ty n fl ap al ac tp tl tc a.vl.k a.vl.b a.vl.bk a.vl.o b.vl.k b.vl.b b.vl.bk b.vl.o c.vl.k c.vl.b c.vl.bk c.vl.o _ _ _ _ _ rfl rfl rfl rfl c5 W
  · rw [if_neg h1]
    by_cases h2 : d.op = 11 ∨ d.op = 12 ∨ d.op = 13
    · rw [if_pos h2]
      rw [wnt_ty (by omega) (by omega) (by omega)] at fa fb
      have hw : isW d.ty = true := by
        unfold typE at hty
        rw [if_neg (by omega), if_neg (by omega), if_neg (by omega)] at hty
        simp at hty
        exact isW_iff.2 hty.2
      have c5 := fun W => shifted_any d a b fa fb h2 hw f0 f1 hfl W
      obtain ⟨op, rg, ty, n, fl, ap, al, ac, tp, tl, tc, ars⟩ := d
      simp only at h2 c5 ⊢
      rcases h2 with rfl | rfl | rfl
      · exact made_11 11 rg ty n fl ap al ac tp tl tc a.vl.k a.vl.b a.vl.bk a.vl.o b.vl.k b.vl.b b.vl.bk b.vl.o c.vl.k c.vl.b c.vl.bk c.vl.o _ _ _ _ _ rfl rfl rfl rfl rfl c5 W
      · exact made_12 12 rg ty n fl ap al ac tp tl tc a.vl.k a.vl.b a.vl.bk a.vl.o b.vl.k b.vl.b b.vl.bk b.vl.o c.vl.k c.vl.b c.vl.bk c.vl.o _ _ _ _ _ rfl rfl rfl rfl rfl rfl c5 W
      · exact made_13 13 rg ty n fl ap al ac tp tl tc a.vl.k a.vl.b a.vl.bk a.vl.o b.vl.k b.vl.b b.vl.bk b.vl.o c.vl.k c.vl.b c.vl.bk c.vl.o _ _ _ _ _ rfl rfl rfl rfl rfl rfl rfl c5 W
    · rw [if_neg h2]
      by_cases h3 : d.op = 20 ∨ d.op = 21 ∨ d.op = 22
      · rw [if_pos h3]
        unfold wntE at fa
        rw [if_pos h3] at fa
        have c5 := fun W => converted_any d a fa W
        obtain ⟨op, rg, ty, n, fl, ap, al, ac, tp, tl, tc, ars⟩ := d
        simp only at h3 c5 ⊢
        rcases h3 with rfl | rfl | rfl
        · exact made_20 20 rg ty n fl ap al ac tp tl tc a.vl.k a.vl.b a.vl.bk a.vl.o b.vl.k b.vl.b b.vl.bk b.vl.o c.vl.k c.vl.b c.vl.bk c.vl.o _ _ _ _ 0 rfl rfl rfl rfl rfl rfl rfl rfl c5 W
        · exact made_21 21 rg ty n fl ap al ac tp tl tc a.vl.k a.vl.b a.vl.bk a.vl.o b.vl.k b.vl.b b.vl.bk b.vl.o c.vl.k c.vl.b c.vl.bk c.vl.o _ _ _ _ 0 rfl rfl rfl rfl rfl rfl rfl rfl rfl c5 W
        · exact made_22 22 rg ty n fl ap al ac tp tl tc a.vl.k a.vl.b a.vl.bk a.vl.o b.vl.k b.vl.b b.vl.bk b.vl.o c.vl.k c.vl.b c.vl.bk c.vl.o _ _ _ _ 0 rfl rfl rfl rfl rfl rfl rfl rfl rfl rfl c5 W
      · rw [if_neg h3]
        by_cases h4 : d.op = 23
        · rw [if_pos h4]
          unfold wntE at fa
          rw [if_neg h3, if_pos h4, if_pos rfl] at fa
          have c5 := fun W => chosen_any a b c fa W
          obtain ⟨op, rg, ty, n, fl, ap, al, ac, tp, tl, tc, ars⟩ := d
          simp only at h4 ⊢
          subst h4
          exact made_23 23 rg ty n fl ap al ac tp tl tc a.vl.k a.vl.b a.vl.bk a.vl.o b.vl.k b.vl.b b.vl.bk b.vl.o c.vl.k c.vl.b c.vl.bk c.vl.o _ _ _ _ 0 rfl rfl rfl rfl rfl rfl rfl rfl rfl rfl rfl c5 W
        · rw [if_neg h4]
          by_cases h5 : d.op = 24
          · rw [if_pos h5]
            have c5 := fun W => frozen_any a W
            obtain ⟨op, rg, ty, n, fl, ap, al, ac, tp, tl, tc, ars⟩ := d
            simp only at h5 ⊢
            subst h5
            exact made_24 24 rg ty n fl ap al ac tp tl tc a.vl.k a.vl.b a.vl.bk a.vl.o b.vl.k b.vl.b b.vl.bk b.vl.o c.vl.k c.vl.b c.vl.bk c.vl.o _ _ _ _ 0 rfl rfl rfl rfl rfl rfl rfl rfl rfl rfl rfl rfl c5 W
          · rw [if_neg h5]
            by_cases h6 : d.op = 29
            · rw [if_pos h6]
              have ht : d.ty = 65 := by
                unfold typE at hty
                rw [if_neg (by omega), if_neg (by omega), if_pos h6] at hty
                simpa using hty
              unfold wntE at fa fb
              rw [if_neg h3, if_neg h4, if_pos h6] at fa fb
              rw [if_neg (by decide), ht] at fa
              rw [if_pos rfl] at fb
              have c5 := fun W => moved_any a b fa fb W
              obtain ⟨op, rg, ty, n, fl, ap, al, ac, tp, tl, tc, ars⟩ := d
              simp only at h6 ⊢
              subst h6
              exact made_29 29 rg ty n fl ap al ac tp tl tc a.vl.k a.vl.b a.vl.bk a.vl.o b.vl.k b.vl.b b.vl.bk b.vl.o c.vl.k c.vl.b c.vl.bk c.vl.o _ _ _ _ 0 rfl rfl rfl rfl rfl rfl rfl rfl rfl rfl rfl rfl rfl c5 W
            · rw [if_neg h6]
              rw [wnt_ty h3 h4 h6] at fa fb
              have c5 := fun W => joined_any d a b fa fb (fun hw => by
                unfold typE at hty
                have := isW_iff.1 hw
                split at hty
                · omega
                · simp at hty
                  omega) f0 f1 hfl W
              obtain ⟨op, rg, ty, n, fl, ap, al, ac, tp, tl, tc, ars⟩ := d
              simp only at h1 h2 h3 h4 h5 h6 c5 ⊢
              exact made_j op rg ty n fl ap al ac tp tl tc a.vl.k a.vl.b a.vl.bk a.vl.o b.vl.k b.vl.b b.vl.bk b.vl.o c.vl.k c.vl.b c.vl.bk c.vl.o _ _ _ _ _ (ne' (by omega)) (ne' (by omega)) (ne' (by omega)) (ne' (by omega)) (ne' (by omega)) (ne' (by omega)) (ne' (by omega)) (ne' (by omega)) (ne' (by omega)) (ne' (by omega)) (ne' (by omega)) (ne' (by omega)) (ne' (by omega)) c5 W
end Go.Proofs.Ytpjfkmaceaikbaa
