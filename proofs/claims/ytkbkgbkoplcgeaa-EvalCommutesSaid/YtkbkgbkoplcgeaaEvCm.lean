/- EvalCommutes: the walk. -/
import Derived.Test.YtkbkgbkoplcgeaaEvN
namespace Go.Proofs.Ytkbkgbkoplcgeaa
open Go.RowKit Go.Maps
set_option linter.unusedVariables false
set_option linter.unusedSimpArgs false
set_option maxRecDepth 100000
set_option maxHeartbeats 1000000


theorem commutes_1 (op rg ty n fl : Int) (ap : Option Addr) (al ac : Nat) (tp : Option Addr) (tl tc : Nat) (ak ab abk ao bk bb bbk bo xk xb xbk xo E : Int) (q1 : (op == 1) = true)
    (c1 : ∀ w, Calls Try.prog 35 #[.agg #[.int .i64 op, .int .i64 rg, .int .i64 ty, .int .i64 n, .int .i64 fl, .slice ap al ac, .slice tp tl tc], .slice (some ⟨w.heap.size, 0, none⟩) 2 2] (w.alloc (.cells #[.int .i64 ak, .int .u64 ab, .int .i64 abk, .int .i64 ao, .int .i64 bk, .int .u64 bb, .int .i64 bbk, .int .i64 bo] 24)) fun e w' => e = .returned (.tuple #[.agg #[.int .i64 xk, .int .u64 xb, .int .i64 xbk, .int .i64 xo], .int .i64 E]) ∧ Below w.heap.size w w')
    (c2 : ∀ (w : World) A, Calls Try.prog 35 #[.agg #[.int .i64 op, .int .i64 rg, .int .i64 ty, .int .i64 n, .int .i64 fl, .slice ap al ac, .slice tp tl tc], .slice (some ⟨w.heap.size + 1, 0, none⟩) 2 2] ((w.alloc A).alloc (.cells #[.int .i64 bk, .int .u64 bb, .int .i64 bbk, .int .i64 bo, .int .i64 ak, .int .u64 ab, .int .i64 abk, .int .i64 ao] 24)) fun e w' => e = .returned (.tuple #[.agg #[.int .i64 xk, .int .u64 xb, .int .i64 xbk, .int .i64 xo], .int .i64 E]) ∧ Below (w.alloc A).heap.size (w.alloc A) w') (W : World) :
    Calls Try.prog 12 #[.agg #[.int .i64 op, .int .i64 rg, .int .i64 ty, .int .i64 n, .int .i64 fl, .slice ap al ac, .slice tp tl tc], .agg #[.int .i64 ak, .int .u64 ab, .int .i64 abk, .int .i64 ao], .agg #[.int .i64 bk, .int .u64 bb, .int .i64 bbk, .int .i64 bo]] W fun e w' => e = .returned (.bool true) ∧ Below W.heap.size W w' := by
  have cl := fun W => livesE_any W
  have G0 := Lib.hid ((((Fr.start W).push (g := W.heap.size) rfl [.int .i64 op, .int .i64 rg, .int .i64 ty, .int .i64 n, .int .i64 fl, .slice ap al ac, .slice tp tl tc] 62).push (g := W.heap.size + 1) (by simp) [.int .i64 ak, .int .u64 ab, .int .i64 abk, .int .i64 ao] 24).push (g := W.heap.size + 1 + 1) (by simp) [.int .i64 bk, .int .u64 bb, .int .i64 bbk, .int .i64 bo] 24)
  go_enter Try.func12, Try.ntmps12
  go_wp2_with (first
    | ((with_reducible refine (cl _).mono ?_); rintro e w1 ⟨rfl, hb⟩; have F := G0.out.later hb; obtain ⟨i0, i1, i2, i3, i4, i5, i6⟩ := F.c7 2 rfl; have iz := (F.at 2 rfl).2.1; obtain ⟨a0, a1, a2, a3, af⟩ := F.c4 1 rfl; have az := (F.at 1 rfl).2.1; obtain ⟨b0, b1, b2, b3, bf⟩ := F.c4 0 rfl; have bz := (F.at 0 rfl).2.1; have G1 := Lib.hid F; clear F hb)
    | ((with_reducible refine (c1 _).mono ?_); rintro e w2 ⟨rfl, hb⟩; have F := G1.out.later hb; clear i0 i1 i2 i3 i4 i5 i6 iz; obtain ⟨i0, i1, i2, i3, i4, i5, i6⟩ := F.c7 2 rfl; have iz := (F.at 2 rfl).2.1; clear a0 a1 a2 a3 af az; obtain ⟨a0, a1, a2, a3, af⟩ := F.c4 1 rfl; have az := (F.at 1 rfl).2.1; clear b0 b1 b2 b3 bf bz; obtain ⟨b0, b1, b2, b3, bf⟩ := F.c4 0 rfl; have bz := (F.at 0 rfl).2.1; have G2 := Lib.hid (F.push (g := w2.heap.size) rfl [.int .i64 xk, .int .u64 xb, .int .i64 xbk, .int .i64 xo] 24); clear F hb)
    | ((with_reducible refine (c2 _ _).mono ?_); rintro e w3 ⟨rfl, hb⟩; have F := G2.out.later hb; obtain ⟨x0, x1, x2, x3, xf⟩ := F.c4 0 rfl; have xz := (F.at 0 rfl).2.1; have G3 := Lib.hid F; clear F hb))
  go_ret
  exact ⟨rfl, (G3.out.alloc _).1⟩
theorem commutes_3 (op rg ty n fl : Int) (ap : Option Addr) (al ac : Nat) (tp : Option Addr) (tl tc : Nat) (ak ab abk ao bk bb bbk bo xk xb xbk xo E : Int) (q1 : (op == 1) = false) (q3 : (op == 3) = true)
    (c1 : ∀ w, Calls Try.prog 35 #[.agg #[.int .i64 op, .int .i64 rg, .int .i64 ty, .int .i64 n, .int .i64 fl, .slice ap al ac, .slice tp tl tc], .slice (some ⟨w.heap.size, 0, none⟩) 2 2] (w.alloc (.cells #[.int .i64 ak, .int .u64 ab, .int .i64 abk, .int .i64 ao, .int .i64 bk, .int .u64 bb, .int .i64 bbk, .int .i64 bo] 24)) fun e w' => e = .returned (.tuple #[.agg #[.int .i64 xk, .int .u64 xb, .int .i64 xbk, .int .i64 xo], .int .i64 E]) ∧ Below w.heap.size w w')
    (c2 : ∀ (w : World) A, Calls Try.prog 35 #[.agg #[.int .i64 op, .int .i64 rg, .int .i64 ty, .int .i64 n, .int .i64 fl, .slice ap al ac, .slice tp tl tc], .slice (some ⟨w.heap.size + 1, 0, none⟩) 2 2] ((w.alloc A).alloc (.cells #[.int .i64 bk, .int .u64 bb, .int .i64 bbk, .int .i64 bo, .int .i64 ak, .int .u64 ab, .int .i64 abk, .int .i64 ao] 24)) fun e w' => e = .returned (.tuple #[.agg #[.int .i64 xk, .int .u64 xb, .int .i64 xbk, .int .i64 xo], .int .i64 E]) ∧ Below (w.alloc A).heap.size (w.alloc A) w') (W : World) :
    Calls Try.prog 12 #[.agg #[.int .i64 op, .int .i64 rg, .int .i64 ty, .int .i64 n, .int .i64 fl, .slice ap al ac, .slice tp tl tc], .agg #[.int .i64 ak, .int .u64 ab, .int .i64 abk, .int .i64 ao], .agg #[.int .i64 bk, .int .u64 bb, .int .i64 bbk, .int .i64 bo]] W fun e w' => e = .returned (.bool true) ∧ Below W.heap.size W w' := by
  have cl := fun W => livesE_any W
  have G0 := Lib.hid ((((Fr.start W).push (g := W.heap.size) rfl [.int .i64 op, .int .i64 rg, .int .i64 ty, .int .i64 n, .int .i64 fl, .slice ap al ac, .slice tp tl tc] 62).push (g := W.heap.size + 1) (by simp) [.int .i64 ak, .int .u64 ab, .int .i64 abk, .int .i64 ao] 24).push (g := W.heap.size + 1 + 1) (by simp) [.int .i64 bk, .int .u64 bb, .int .i64 bbk, .int .i64 bo] 24)
  go_enter Try.func12, Try.ntmps12
  go_wp2_with (first
    | ((with_reducible refine (cl _).mono ?_); rintro e w1 ⟨rfl, hb⟩; have F := G0.out.later hb; obtain ⟨i0, i1, i2, i3, i4, i5, i6⟩ := F.c7 2 rfl; have iz := (F.at 2 rfl).2.1; obtain ⟨a0, a1, a2, a3, af⟩ := F.c4 1 rfl; have az := (F.at 1 rfl).2.1; obtain ⟨b0, b1, b2, b3, bf⟩ := F.c4 0 rfl; have bz := (F.at 0 rfl).2.1; have G1 := Lib.hid F; clear F hb)
    | ((with_reducible refine (c1 _).mono ?_); rintro e w2 ⟨rfl, hb⟩; have F := G1.out.later hb; clear i0 i1 i2 i3 i4 i5 i6 iz; obtain ⟨i0, i1, i2, i3, i4, i5, i6⟩ := F.c7 2 rfl; have iz := (F.at 2 rfl).2.1; clear a0 a1 a2 a3 af az; obtain ⟨a0, a1, a2, a3, af⟩ := F.c4 1 rfl; have az := (F.at 1 rfl).2.1; clear b0 b1 b2 b3 bf bz; obtain ⟨b0, b1, b2, b3, bf⟩ := F.c4 0 rfl; have bz := (F.at 0 rfl).2.1; have G2 := Lib.hid (F.push (g := w2.heap.size) rfl [.int .i64 xk, .int .u64 xb, .int .i64 xbk, .int .i64 xo] 24); clear F hb)
    | ((with_reducible refine (c2 _ _).mono ?_); rintro e w3 ⟨rfl, hb⟩; have F := G2.out.later hb; obtain ⟨x0, x1, x2, x3, xf⟩ := F.c4 0 rfl; have xz := (F.at 0 rfl).2.1; have G3 := Lib.hid F; clear F hb))
  go_ret
  exact ⟨rfl, (G3.out.alloc _).1⟩
theorem commutes_8 (op rg ty n fl : Int) (ap : Option Addr) (al ac : Nat) (tp : Option Addr) (tl tc : Nat) (ak ab abk ao bk bb bbk bo xk xb xbk xo E : Int) (q1 : (op == 1) = false) (q3 : (op == 3) = false) (q8 : (op == 8) = true)
    (c1 : ∀ w, Calls Try.prog 35 #[.agg #[.int .i64 op, .int .i64 rg, .int .i64 ty, .int .i64 n, .int .i64 fl, .slice ap al ac, .slice tp tl tc], .slice (some ⟨w.heap.size, 0, none⟩) 2 2] (w.alloc (.cells #[.int .i64 ak, .int .u64 ab, .int .i64 abk, .int .i64 ao, .int .i64 bk, .int .u64 bb, .int .i64 bbk, .int .i64 bo] 24)) fun e w' => e = .returned (.tuple #[.agg #[.int .i64 xk, .int .u64 xb, .int .i64 xbk, .int .i64 xo], .int .i64 E]) ∧ Below w.heap.size w w')
    (c2 : ∀ (w : World) A, Calls Try.prog 35 #[.agg #[.int .i64 op, .int .i64 rg, .int .i64 ty, .int .i64 n, .int .i64 fl, .slice ap al ac, .slice tp tl tc], .slice (some ⟨w.heap.size + 1, 0, none⟩) 2 2] ((w.alloc A).alloc (.cells #[.int .i64 bk, .int .u64 bb, .int .i64 bbk, .int .i64 bo, .int .i64 ak, .int .u64 ab, .int .i64 abk, .int .i64 ao] 24)) fun e w' => e = .returned (.tuple #[.agg #[.int .i64 xk, .int .u64 xb, .int .i64 xbk, .int .i64 xo], .int .i64 E]) ∧ Below (w.alloc A).heap.size (w.alloc A) w') (W : World) :
    Calls Try.prog 12 #[.agg #[.int .i64 op, .int .i64 rg, .int .i64 ty, .int .i64 n, .int .i64 fl, .slice ap al ac, .slice tp tl tc], .agg #[.int .i64 ak, .int .u64 ab, .int .i64 abk, .int .i64 ao], .agg #[.int .i64 bk, .int .u64 bb, .int .i64 bbk, .int .i64 bo]] W fun e w' => e = .returned (.bool true) ∧ Below W.heap.size W w' := by
  have cl := fun W => livesE_any W
  have G0 := Lib.hid ((((Fr.start W).push (g := W.heap.size) rfl [.int .i64 op, .int .i64 rg, .int .i64 ty, .int .i64 n, .int .i64 fl, .slice ap al ac, .slice tp tl tc] 62).push (g := W.heap.size + 1) (by simp) [.int .i64 ak, .int .u64 ab, .int .i64 abk, .int .i64 ao] 24).push (g := W.heap.size + 1 + 1) (by simp) [.int .i64 bk, .int .u64 bb, .int .i64 bbk, .int .i64 bo] 24)
  go_enter Try.func12, Try.ntmps12
  go_wp2_with (first
    | ((with_reducible refine (cl _).mono ?_); rintro e w1 ⟨rfl, hb⟩; have F := G0.out.later hb; obtain ⟨i0, i1, i2, i3, i4, i5, i6⟩ := F.c7 2 rfl; have iz := (F.at 2 rfl).2.1; obtain ⟨a0, a1, a2, a3, af⟩ := F.c4 1 rfl; have az := (F.at 1 rfl).2.1; obtain ⟨b0, b1, b2, b3, bf⟩ := F.c4 0 rfl; have bz := (F.at 0 rfl).2.1; have G1 := Lib.hid F; clear F hb)
    | ((with_reducible refine (c1 _).mono ?_); rintro e w2 ⟨rfl, hb⟩; have F := G1.out.later hb; clear i0 i1 i2 i3 i4 i5 i6 iz; obtain ⟨i0, i1, i2, i3, i4, i5, i6⟩ := F.c7 2 rfl; have iz := (F.at 2 rfl).2.1; clear a0 a1 a2 a3 af az; obtain ⟨a0, a1, a2, a3, af⟩ := F.c4 1 rfl; have az := (F.at 1 rfl).2.1; clear b0 b1 b2 b3 bf bz; obtain ⟨b0, b1, b2, b3, bf⟩ := F.c4 0 rfl; have bz := (F.at 0 rfl).2.1; have G2 := Lib.hid (F.push (g := w2.heap.size) rfl [.int .i64 xk, .int .u64 xb, .int .i64 xbk, .int .i64 xo] 24); clear F hb)
    | ((with_reducible refine (c2 _ _).mono ?_); rintro e w3 ⟨rfl, hb⟩; have F := G2.out.later hb; obtain ⟨x0, x1, x2, x3, xf⟩ := F.c4 0 rfl; have xz := (F.at 0 rfl).2.1; have G3 := Lib.hid F; clear F hb))
  go_ret
  exact ⟨rfl, (G3.out.alloc _).1⟩
theorem commutes_9 (op rg ty n fl : Int) (ap : Option Addr) (al ac : Nat) (tp : Option Addr) (tl tc : Nat) (ak ab abk ao bk bb bbk bo xk xb xbk xo E : Int) (q1 : (op == 1) = false) (q3 : (op == 3) = false) (q8 : (op == 8) = false) (q9 : (op == 9) = true)
    (c1 : ∀ w, Calls Try.prog 35 #[.agg #[.int .i64 op, .int .i64 rg, .int .i64 ty, .int .i64 n, .int .i64 fl, .slice ap al ac, .slice tp tl tc], .slice (some ⟨w.heap.size, 0, none⟩) 2 2] (w.alloc (.cells #[.int .i64 ak, .int .u64 ab, .int .i64 abk, .int .i64 ao, .int .i64 bk, .int .u64 bb, .int .i64 bbk, .int .i64 bo] 24)) fun e w' => e = .returned (.tuple #[.agg #[.int .i64 xk, .int .u64 xb, .int .i64 xbk, .int .i64 xo], .int .i64 E]) ∧ Below w.heap.size w w')
    (c2 : ∀ (w : World) A, Calls Try.prog 35 #[.agg #[.int .i64 op, .int .i64 rg, .int .i64 ty, .int .i64 n, .int .i64 fl, .slice ap al ac, .slice tp tl tc], .slice (some ⟨w.heap.size + 1, 0, none⟩) 2 2] ((w.alloc A).alloc (.cells #[.int .i64 bk, .int .u64 bb, .int .i64 bbk, .int .i64 bo, .int .i64 ak, .int .u64 ab, .int .i64 abk, .int .i64 ao] 24)) fun e w' => e = .returned (.tuple #[.agg #[.int .i64 xk, .int .u64 xb, .int .i64 xbk, .int .i64 xo], .int .i64 E]) ∧ Below (w.alloc A).heap.size (w.alloc A) w') (W : World) :
    Calls Try.prog 12 #[.agg #[.int .i64 op, .int .i64 rg, .int .i64 ty, .int .i64 n, .int .i64 fl, .slice ap al ac, .slice tp tl tc], .agg #[.int .i64 ak, .int .u64 ab, .int .i64 abk, .int .i64 ao], .agg #[.int .i64 bk, .int .u64 bb, .int .i64 bbk, .int .i64 bo]] W fun e w' => e = .returned (.bool true) ∧ Below W.heap.size W w' := by
  have cl := fun W => livesE_any W
  have G0 := Lib.hid ((((Fr.start W).push (g := W.heap.size) rfl [.int .i64 op, .int .i64 rg, .int .i64 ty, .int .i64 n, .int .i64 fl, .slice ap al ac, .slice tp tl tc] 62).push (g := W.heap.size + 1) (by simp) [.int .i64 ak, .int .u64 ab, .int .i64 abk, .int .i64 ao] 24).push (g := W.heap.size + 1 + 1) (by simp) [.int .i64 bk, .int .u64 bb, .int .i64 bbk, .int .i64 bo] 24)
  go_enter Try.func12, Try.ntmps12
  go_wp2_with (first
    | ((with_reducible refine (cl _).mono ?_); rintro e w1 ⟨rfl, hb⟩; have F := G0.out.later hb; obtain ⟨i0, i1, i2, i3, i4, i5, i6⟩ := F.c7 2 rfl; have iz := (F.at 2 rfl).2.1; obtain ⟨a0, a1, a2, a3, af⟩ := F.c4 1 rfl; have az := (F.at 1 rfl).2.1; obtain ⟨b0, b1, b2, b3, bf⟩ := F.c4 0 rfl; have bz := (F.at 0 rfl).2.1; have G1 := Lib.hid F; clear F hb)
    | ((with_reducible refine (c1 _).mono ?_); rintro e w2 ⟨rfl, hb⟩; have F := G1.out.later hb; clear i0 i1 i2 i3 i4 i5 i6 iz; obtain ⟨i0, i1, i2, i3, i4, i5, i6⟩ := F.c7 2 rfl; have iz := (F.at 2 rfl).2.1; clear a0 a1 a2 a3 af az; obtain ⟨a0, a1, a2, a3, af⟩ := F.c4 1 rfl; have az := (F.at 1 rfl).2.1; clear b0 b1 b2 b3 bf bz; obtain ⟨b0, b1, b2, b3, bf⟩ := F.c4 0 rfl; have bz := (F.at 0 rfl).2.1; have G2 := Lib.hid (F.push (g := w2.heap.size) rfl [.int .i64 xk, .int .u64 xb, .int .i64 xbk, .int .i64 xo] 24); clear F hb)
    | ((with_reducible refine (c2 _ _).mono ?_); rintro e w3 ⟨rfl, hb⟩; have F := G2.out.later hb; obtain ⟨x0, x1, x2, x3, xf⟩ := F.c4 0 rfl; have xz := (F.at 0 rfl).2.1; have G3 := Lib.hid F; clear F hb))
  go_ret
  exact ⟨rfl, (G3.out.alloc _).1⟩
theorem commutes_10 (op rg ty n fl : Int) (ap : Option Addr) (al ac : Nat) (tp : Option Addr) (tl tc : Nat) (ak ab abk ao bk bb bbk bo xk xb xbk xo E : Int) (q1 : (op == 1) = false) (q3 : (op == 3) = false) (q8 : (op == 8) = false) (q9 : (op == 9) = false) (q10 : (op == 10) = true)
    (c1 : ∀ w, Calls Try.prog 35 #[.agg #[.int .i64 op, .int .i64 rg, .int .i64 ty, .int .i64 n, .int .i64 fl, .slice ap al ac, .slice tp tl tc], .slice (some ⟨w.heap.size, 0, none⟩) 2 2] (w.alloc (.cells #[.int .i64 ak, .int .u64 ab, .int .i64 abk, .int .i64 ao, .int .i64 bk, .int .u64 bb, .int .i64 bbk, .int .i64 bo] 24)) fun e w' => e = .returned (.tuple #[.agg #[.int .i64 xk, .int .u64 xb, .int .i64 xbk, .int .i64 xo], .int .i64 E]) ∧ Below w.heap.size w w')
    (c2 : ∀ (w : World) A, Calls Try.prog 35 #[.agg #[.int .i64 op, .int .i64 rg, .int .i64 ty, .int .i64 n, .int .i64 fl, .slice ap al ac, .slice tp tl tc], .slice (some ⟨w.heap.size + 1, 0, none⟩) 2 2] ((w.alloc A).alloc (.cells #[.int .i64 bk, .int .u64 bb, .int .i64 bbk, .int .i64 bo, .int .i64 ak, .int .u64 ab, .int .i64 abk, .int .i64 ao] 24)) fun e w' => e = .returned (.tuple #[.agg #[.int .i64 xk, .int .u64 xb, .int .i64 xbk, .int .i64 xo], .int .i64 E]) ∧ Below (w.alloc A).heap.size (w.alloc A) w') (W : World) :
    Calls Try.prog 12 #[.agg #[.int .i64 op, .int .i64 rg, .int .i64 ty, .int .i64 n, .int .i64 fl, .slice ap al ac, .slice tp tl tc], .agg #[.int .i64 ak, .int .u64 ab, .int .i64 abk, .int .i64 ao], .agg #[.int .i64 bk, .int .u64 bb, .int .i64 bbk, .int .i64 bo]] W fun e w' => e = .returned (.bool true) ∧ Below W.heap.size W w' := by
  have cl := fun W => livesE_any W
  have G0 := Lib.hid ((((Fr.start W).push (g := W.heap.size) rfl [.int .i64 op, .int .i64 rg, .int .i64 ty, .int .i64 n, .int .i64 fl, .slice ap al ac, .slice tp tl tc] 62).push (g := W.heap.size + 1) (by simp) [.int .i64 ak, .int .u64 ab, .int .i64 abk, .int .i64 ao] 24).push (g := W.heap.size + 1 + 1) (by simp) [.int .i64 bk, .int .u64 bb, .int .i64 bbk, .int .i64 bo] 24)
  go_enter Try.func12, Try.ntmps12
  go_wp2_with (first
    | ((with_reducible refine (cl _).mono ?_); rintro e w1 ⟨rfl, hb⟩; have F := G0.out.later hb; obtain ⟨i0, i1, i2, i3, i4, i5, i6⟩ := F.c7 2 rfl; have iz := (F.at 2 rfl).2.1; obtain ⟨a0, a1, a2, a3, af⟩ := F.c4 1 rfl; have az := (F.at 1 rfl).2.1; obtain ⟨b0, b1, b2, b3, bf⟩ := F.c4 0 rfl; have bz := (F.at 0 rfl).2.1; have G1 := Lib.hid F; clear F hb)
    | ((with_reducible refine (c1 _).mono ?_); rintro e w2 ⟨rfl, hb⟩; have F := G1.out.later hb; clear i0 i1 i2 i3 i4 i5 i6 iz; obtain ⟨i0, i1, i2, i3, i4, i5, i6⟩ := F.c7 2 rfl; have iz := (F.at 2 rfl).2.1; clear a0 a1 a2 a3 af az; obtain ⟨a0, a1, a2, a3, af⟩ := F.c4 1 rfl; have az := (F.at 1 rfl).2.1; clear b0 b1 b2 b3 bf bz; obtain ⟨b0, b1, b2, b3, bf⟩ := F.c4 0 rfl; have bz := (F.at 0 rfl).2.1; have G2 := Lib.hid (F.push (g := w2.heap.size) rfl [.int .i64 xk, .int .u64 xb, .int .i64 xbk, .int .i64 xo] 24); clear F hb)
    | ((with_reducible refine (c2 _ _).mono ?_); rintro e w3 ⟨rfl, hb⟩; have F := G2.out.later hb; obtain ⟨x0, x1, x2, x3, xf⟩ := F.c4 0 rfl; have xz := (F.at 0 rfl).2.1; have G3 := Lib.hid F; clear F hb))
  go_ret
  exact ⟨rfl, (G3.out.alloc _).1⟩
theorem commutes_14 (op rg ty n fl : Int) (ap : Option Addr) (al ac : Nat) (tp : Option Addr) (tl tc : Nat) (ak ab abk ao bk bb bbk bo xk xb xbk xo E : Int) (q1 : (op == 1) = false) (q3 : (op == 3) = false) (q8 : (op == 8) = false) (q9 : (op == 9) = false) (q10 : (op == 10) = false) (q14 : (op == 14) = true)
    (c1 : ∀ w, Calls Try.prog 35 #[.agg #[.int .i64 op, .int .i64 rg, .int .i64 ty, .int .i64 n, .int .i64 fl, .slice ap al ac, .slice tp tl tc], .slice (some ⟨w.heap.size, 0, none⟩) 2 2] (w.alloc (.cells #[.int .i64 ak, .int .u64 ab, .int .i64 abk, .int .i64 ao, .int .i64 bk, .int .u64 bb, .int .i64 bbk, .int .i64 bo] 24)) fun e w' => e = .returned (.tuple #[.agg #[.int .i64 xk, .int .u64 xb, .int .i64 xbk, .int .i64 xo], .int .i64 E]) ∧ Below w.heap.size w w')
    (c2 : ∀ (w : World) A, Calls Try.prog 35 #[.agg #[.int .i64 op, .int .i64 rg, .int .i64 ty, .int .i64 n, .int .i64 fl, .slice ap al ac, .slice tp tl tc], .slice (some ⟨w.heap.size + 1, 0, none⟩) 2 2] ((w.alloc A).alloc (.cells #[.int .i64 bk, .int .u64 bb, .int .i64 bbk, .int .i64 bo, .int .i64 ak, .int .u64 ab, .int .i64 abk, .int .i64 ao] 24)) fun e w' => e = .returned (.tuple #[.agg #[.int .i64 xk, .int .u64 xb, .int .i64 xbk, .int .i64 xo], .int .i64 E]) ∧ Below (w.alloc A).heap.size (w.alloc A) w') (W : World) :
    Calls Try.prog 12 #[.agg #[.int .i64 op, .int .i64 rg, .int .i64 ty, .int .i64 n, .int .i64 fl, .slice ap al ac, .slice tp tl tc], .agg #[.int .i64 ak, .int .u64 ab, .int .i64 abk, .int .i64 ao], .agg #[.int .i64 bk, .int .u64 bb, .int .i64 bbk, .int .i64 bo]] W fun e w' => e = .returned (.bool true) ∧ Below W.heap.size W w' := by
  have cl := fun W => livesE_any W
  have G0 := Lib.hid ((((Fr.start W).push (g := W.heap.size) rfl [.int .i64 op, .int .i64 rg, .int .i64 ty, .int .i64 n, .int .i64 fl, .slice ap al ac, .slice tp tl tc] 62).push (g := W.heap.size + 1) (by simp) [.int .i64 ak, .int .u64 ab, .int .i64 abk, .int .i64 ao] 24).push (g := W.heap.size + 1 + 1) (by simp) [.int .i64 bk, .int .u64 bb, .int .i64 bbk, .int .i64 bo] 24)
  go_enter Try.func12, Try.ntmps12
  go_wp2_with (first
    | ((with_reducible refine (cl _).mono ?_); rintro e w1 ⟨rfl, hb⟩; have F := G0.out.later hb; obtain ⟨i0, i1, i2, i3, i4, i5, i6⟩ := F.c7 2 rfl; have iz := (F.at 2 rfl).2.1; obtain ⟨a0, a1, a2, a3, af⟩ := F.c4 1 rfl; have az := (F.at 1 rfl).2.1; obtain ⟨b0, b1, b2, b3, bf⟩ := F.c4 0 rfl; have bz := (F.at 0 rfl).2.1; have G1 := Lib.hid F; clear F hb)
    | ((with_reducible refine (c1 _).mono ?_); rintro e w2 ⟨rfl, hb⟩; have F := G1.out.later hb; clear i0 i1 i2 i3 i4 i5 i6 iz; obtain ⟨i0, i1, i2, i3, i4, i5, i6⟩ := F.c7 2 rfl; have iz := (F.at 2 rfl).2.1; clear a0 a1 a2 a3 af az; obtain ⟨a0, a1, a2, a3, af⟩ := F.c4 1 rfl; have az := (F.at 1 rfl).2.1; clear b0 b1 b2 b3 bf bz; obtain ⟨b0, b1, b2, b3, bf⟩ := F.c4 0 rfl; have bz := (F.at 0 rfl).2.1; have G2 := Lib.hid (F.push (g := w2.heap.size) rfl [.int .i64 xk, .int .u64 xb, .int .i64 xbk, .int .i64 xo] 24); clear F hb)
    | ((with_reducible refine (c2 _ _).mono ?_); rintro e w3 ⟨rfl, hb⟩; have F := G2.out.later hb; obtain ⟨x0, x1, x2, x3, xf⟩ := F.c4 0 rfl; have xz := (F.at 0 rfl).2.1; have G3 := Lib.hid F; clear F hb))
  go_ret
  exact ⟨rfl, (G3.out.alloc _).1⟩
theorem commutes_15 (op rg ty n fl : Int) (ap : Option Addr) (al ac : Nat) (tp : Option Addr) (tl tc : Nat) (ak ab abk ao bk bb bbk bo xk xb xbk xo E : Int) (q1 : (op == 1) = false) (q3 : (op == 3) = false) (q8 : (op == 8) = false) (q9 : (op == 9) = false) (q10 : (op == 10) = false) (q14 : (op == 14) = false) (q15 : (op == 15) = true)
    (c1 : ∀ w, Calls Try.prog 35 #[.agg #[.int .i64 op, .int .i64 rg, .int .i64 ty, .int .i64 n, .int .i64 fl, .slice ap al ac, .slice tp tl tc], .slice (some ⟨w.heap.size, 0, none⟩) 2 2] (w.alloc (.cells #[.int .i64 ak, .int .u64 ab, .int .i64 abk, .int .i64 ao, .int .i64 bk, .int .u64 bb, .int .i64 bbk, .int .i64 bo] 24)) fun e w' => e = .returned (.tuple #[.agg #[.int .i64 xk, .int .u64 xb, .int .i64 xbk, .int .i64 xo], .int .i64 E]) ∧ Below w.heap.size w w')
    (c2 : ∀ (w : World) A, Calls Try.prog 35 #[.agg #[.int .i64 op, .int .i64 rg, .int .i64 ty, .int .i64 n, .int .i64 fl, .slice ap al ac, .slice tp tl tc], .slice (some ⟨w.heap.size + 1, 0, none⟩) 2 2] ((w.alloc A).alloc (.cells #[.int .i64 bk, .int .u64 bb, .int .i64 bbk, .int .i64 bo, .int .i64 ak, .int .u64 ab, .int .i64 abk, .int .i64 ao] 24)) fun e w' => e = .returned (.tuple #[.agg #[.int .i64 xk, .int .u64 xb, .int .i64 xbk, .int .i64 xo], .int .i64 E]) ∧ Below (w.alloc A).heap.size (w.alloc A) w') (W : World) :
    Calls Try.prog 12 #[.agg #[.int .i64 op, .int .i64 rg, .int .i64 ty, .int .i64 n, .int .i64 fl, .slice ap al ac, .slice tp tl tc], .agg #[.int .i64 ak, .int .u64 ab, .int .i64 abk, .int .i64 ao], .agg #[.int .i64 bk, .int .u64 bb, .int .i64 bbk, .int .i64 bo]] W fun e w' => e = .returned (.bool true) ∧ Below W.heap.size W w' := by
  have cl := fun W => livesE_any W
  have G0 := Lib.hid ((((Fr.start W).push (g := W.heap.size) rfl [.int .i64 op, .int .i64 rg, .int .i64 ty, .int .i64 n, .int .i64 fl, .slice ap al ac, .slice tp tl tc] 62).push (g := W.heap.size + 1) (by simp) [.int .i64 ak, .int .u64 ab, .int .i64 abk, .int .i64 ao] 24).push (g := W.heap.size + 1 + 1) (by simp) [.int .i64 bk, .int .u64 bb, .int .i64 bbk, .int .i64 bo] 24)
  go_enter Try.func12, Try.ntmps12
  go_wp2_with (first
    | ((with_reducible refine (cl _).mono ?_); rintro e w1 ⟨rfl, hb⟩; have F := G0.out.later hb; obtain ⟨i0, i1, i2, i3, i4, i5, i6⟩ := F.c7 2 rfl; have iz := (F.at 2 rfl).2.1; obtain ⟨a0, a1, a2, a3, af⟩ := F.c4 1 rfl; have az := (F.at 1 rfl).2.1; obtain ⟨b0, b1, b2, b3, bf⟩ := F.c4 0 rfl; have bz := (F.at 0 rfl).2.1; have G1 := Lib.hid F; clear F hb)
    | ((with_reducible refine (c1 _).mono ?_); rintro e w2 ⟨rfl, hb⟩; have F := G1.out.later hb; clear i0 i1 i2 i3 i4 i5 i6 iz; obtain ⟨i0, i1, i2, i3, i4, i5, i6⟩ := F.c7 2 rfl; have iz := (F.at 2 rfl).2.1; clear a0 a1 a2 a3 af az; obtain ⟨a0, a1, a2, a3, af⟩ := F.c4 1 rfl; have az := (F.at 1 rfl).2.1; clear b0 b1 b2 b3 bf bz; obtain ⟨b0, b1, b2, b3, bf⟩ := F.c4 0 rfl; have bz := (F.at 0 rfl).2.1; have G2 := Lib.hid (F.push (g := w2.heap.size) rfl [.int .i64 xk, .int .u64 xb, .int .i64 xbk, .int .i64 xo] 24); clear F hb)
    | ((with_reducible refine (c2 _ _).mono ?_); rintro e w3 ⟨rfl, hb⟩; have F := G2.out.later hb; obtain ⟨x0, x1, x2, x3, xf⟩ := F.c4 0 rfl; have xz := (F.at 0 rfl).2.1; have G3 := Lib.hid F; clear F hb))
  go_ret
  exact ⟨rfl, (G3.out.alloc _).1⟩
theorem commutes_n (op rg ty n fl : Int) (ap : Option Addr) (al ac : Nat) (tp : Option Addr) (tl tc : Nat) (ak ab abk ao bk bb bbk bo : Int) (q1 : (op == 1) = false) (q3 : (op == 3) = false) (q8 : (op == 8) = false) (q9 : (op == 9) = false) (q10 : (op == 10) = false) (q14 : (op == 14) = false) (q15 : (op == 15) = false) (W : World) :
    Calls Try.prog 12 #[.agg #[.int .i64 op, .int .i64 rg, .int .i64 ty, .int .i64 n, .int .i64 fl, .slice ap al ac, .slice tp tl tc], .agg #[.int .i64 ak, .int .u64 ab, .int .i64 abk, .int .i64 ao], .agg #[.int .i64 bk, .int .u64 bb, .int .i64 bbk, .int .i64 bo]] W fun e w' => e = .returned (.bool true) ∧ Below W.heap.size W w' := by
  have cl := fun W => livesE_any W
  have G0 := Lib.hid ((((Fr.start W).push (g := W.heap.size) rfl [.int .i64 op, .int .i64 rg, .int .i64 ty, .int .i64 n, .int .i64 fl, .slice ap al ac, .slice tp tl tc] 62).push (g := W.heap.size + 1) (by simp) [.int .i64 ak, .int .u64 ab, .int .i64 abk, .int .i64 ao] 24).push (g := W.heap.size + 1 + 1) (by simp) [.int .i64 bk, .int .u64 bb, .int .i64 bbk, .int .i64 bo] 24)
  go_enter Try.func12, Try.ntmps12
  go_wp2_with (first
    | ((with_reducible refine (cl _).mono ?_); rintro e w1 ⟨rfl, hb⟩; have F := G0.out.later hb; obtain ⟨i0, i1, i2, i3, i4, i5, i6⟩ := F.c7 2 rfl; have iz := (F.at 2 rfl).2.1; have G1 := Lib.hid F; clear F hb))
  go_ret
  exact ⟨rfl, G1.out.1⟩
theorem commutes_walk (d : Ins) (a b : Vl) (f0 : -9223372036854775808 ≤ d.fl) (f1 : d.fl ≤ 9223372036854775807) (ha : a.ok) (hb : b.ok) (W : World) :
    Calls Try.prog 12 #[d.val, a.val, b.val] W fun e w' => e = .returned (.bool true) ∧ Below W.heap.size W w' := by
  have c1 := fun w => Eval_lit d f0 f1 [a, b] (by simp) (fun x hx => by simp at hx; rcases hx with rfl | rfl <;> assumption) w
  have c2 := fun w A => Eval_lit1 d f0 f1 [b, a] (by simp) (fun x hx => by simp at hx; rcases hx with rfl | rfl <;> assumption) w A
  by_cases h : comB d.op = true
  · simp only [eval_comm h f0 f1 b a] at c2
    obtain ⟨op, rg, ty, n, fl, ap, al, ac, tp, tl, tc, ars⟩ := d
    have ho : op = 1 ∨ op = 3 ∨ op = 8 ∨ op = 9 ∨ op = 10 ∨ op = 14 ∨ op = 15 := by simpa [comB] using h
    clear h f0 f1
    rcases ho with rfl | rfl | rfl | rfl | rfl | rfl | rfl
    · exact commutes_1 1 rg ty n fl ap al ac tp tl tc _ _ _ _ _ _ _ _ _ _ _ _ _ rfl c1 c2 W
    · exact commutes_3 3 rg ty n fl ap al ac tp tl tc _ _ _ _ _ _ _ _ _ _ _ _ _ rfl rfl c1 c2 W
    · exact commutes_8 8 rg ty n fl ap al ac tp tl tc _ _ _ _ _ _ _ _ _ _ _ _ _ rfl rfl rfl c1 c2 W
    · exact commutes_9 9 rg ty n fl ap al ac tp tl tc _ _ _ _ _ _ _ _ _ _ _ _ _ rfl rfl rfl rfl c1 c2 W
    · exact commutes_10 10 rg ty n fl ap al ac tp tl tc _ _ _ _ _ _ _ _ _ _ _ _ _ rfl rfl rfl rfl rfl c1 c2 W
    · exact commutes_14 14 rg ty n fl ap al ac tp tl tc _ _ _ _ _ _ _ _ _ _ _ _ _ rfl rfl rfl rfl rfl rfl c1 c2 W
    · exact commutes_15 15 rg ty n fl ap al ac tp tl tc _ _ _ _ _ _ _ _ _ _ _ _ _ rfl rfl rfl rfl rfl rfl rfl c1 c2 W
  · obtain ⟨op, rg, ty, n, fl, ap, al, ac, tp, tl, tc, ars⟩ := d
    have ho : ¬ (op = 1 ∨ op = 3 ∨ op = 8 ∨ op = 9 ∨ op = 10 ∨ op = 14 ∨ op = 15) := by simpa [comB] using h
    exact commutes_n op rg ty n fl ap al ac tp tl tc _ _ _ _ _ _ _ _ (ne' (by omega)) (ne' (by omega)) (ne' (by omega)) (ne' (by omega)) (ne' (by omega)) (ne' (by omega)) (ne' (by omega)) W
end Go.Proofs.Ytkbkgbkoplcgeaa
