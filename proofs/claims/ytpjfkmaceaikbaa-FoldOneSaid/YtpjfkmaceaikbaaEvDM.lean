/- Package eval: divided (by poison, nought, any). -/
import Derived.Test.YtpjfkmaceaikbaaEvBM
namespace Go.Proofs.Ytpjfkmaceaikbaa
open Go.RowKit Go.Maps
set_option linter.unusedVariables false
set_option linter.unusedSimpArgs false
set_option maxRecDepth 100000
set_option maxHeartbeats 1000000


theorem divided_p (op rg ty n fl : Int) (ap : Option Addr) (al ac : Nat) (tp : Option Addr) (tl tc : Nat) (ak ab abk ao bb bbk bo : Int) (W : World) :
    Calls Try.prog 40 #[.agg #[.int .i64 op, .int .i64 rg, .int .i64 ty, .int .i64 n, .int .i64 fl, .slice ap al ac, .slice tp tl tc], .agg #[.int .i64 ak, .int .u64 ab, .int .i64 abk, .int .i64 ao], .agg #[.int .i64 0, .int .u64 bb, .int .i64 bbk, .int .i64 bo]] W fun e w' => e = .returned (.tuple #[.agg #[.int .i64 0, .int .u64 0, .int .i64 0, .int .i64 0], .int .i64 2]) ∧ Below W.heap.size W w' := by
  have cP : ∀ (p q r s : Int) W, Calls Try.prog 58 #[.agg #[.int .i64 p, .int .u64 q, .int .i64 r, .int .i64 s]] W fun e w' => e = .returned (.bool (p == 0)) ∧ Below W.heap.size W w' := fun p q r s W => isPoison_any ⟨p, q, r, s⟩ W
  have cA : ∀ (p q r s : Int) W, Calls Try.prog 60 #[.agg #[.int .i64 p, .int .u64 q, .int .i64 r, .int .i64 s]] W fun e w' => e = .returned (.bool (p == 3)) ∧ Below W.heap.size W w' := fun p q r s W => isAny_any ⟨p, q, r, s⟩ W
  have cV := fun b W => numberV_any b W
  have b0 := bV0
  have F := (((((Fr.start W)).push (g := W.heap.size) (by simp) [.int .i64 op, .int .i64 rg, .int .i64 ty, .int .i64 n, .int .i64 fl, .slice ap al ac, .slice tp tl tc] 25).push (g := W.heap.size + 1) (by simp) [.int .i64 ak, .int .u64 ab, .int .i64 abk, .int .i64 ao] 35).push (g := W.heap.size + 1 + 1) (by simp) [.int .i64 0, .int .u64 bb, .int .i64 bbk, .int .i64 bo] 35).push (g := W.heap.size + 1 + 1 + 1) (by simp) [.int .i64 0, .int .u64 0, .int .i64 0, .int .i64 0] 35
  have G := Lib.hid F
  clear F
  go_enter Try.func40, Try.ntmps40
  go_wp2_with fail
  go_region_law (first
    | (go_simp; (with_reducible refine ((cP _ _ _ _) _).mono ?_); rintro e w9 ⟨rfl, hb⟩; have F := G.out.drew.later hb; (try clear i0 i1 i2 i3 i4 i5 i6 a0 a1 a2 a3 af b0 b1 b2 b3 bf r0 r1 r2 r3 rf); obtain ⟨i0, i1, i2, i3, i4, i5, i6⟩ := F.c7 3 rfl; obtain ⟨a0, a1, a2, a3, af⟩ := F.c4 2 rfl; obtain ⟨b0, b1, b2, b3, bf⟩ := F.c4 1 rfl; obtain ⟨r0, r1, r2, r3, rf⟩ := F.c4 0 rfl; replace G := Lib.hid F; clear F hb)
    | (go_simp; (with_reducible refine ((cP _ _ _ _) _).mono ?_); rintro e w9 ⟨rfl, hb⟩; have F := G.out.later hb; (try clear i0 i1 i2 i3 i4 i5 i6 a0 a1 a2 a3 af b0 b1 b2 b3 bf r0 r1 r2 r3 rf); obtain ⟨i0, i1, i2, i3, i4, i5, i6⟩ := F.c7 3 rfl; obtain ⟨a0, a1, a2, a3, af⟩ := F.c4 2 rfl; obtain ⟨b0, b1, b2, b3, bf⟩ := F.c4 1 rfl; obtain ⟨r0, r1, r2, r3, rf⟩ := F.c4 0 rfl; replace G := Lib.hid F; clear F hb))
  all_goals
    go_wp2_with fail
    exact bodyPost_ret (v := .tuple #[.agg #[.int .i64 0, .int .u64 0, .int .i64 0, .int .i64 0], .int .i64 2]) (by simp [results, Try.results40, go_sem, *]) rfl ⟨rfl, G.out.set4 0 rfl _ _ _ _⟩
theorem divided_0 (op rg ty n fl : Int) (ap : Option Addr) (al ac : Nat) (tp : Option Addr) (tl tc : Nat) (ak ab abk ao : Int) (W : World) :
    Calls Try.prog 40 #[.agg #[.int .i64 op, .int .i64 rg, .int .i64 ty, .int .i64 n, .int .i64 fl, .slice ap al ac, .slice tp tl tc], .agg #[.int .i64 ak, .int .u64 ab, .int .i64 abk, .int .i64 ao], .agg #[.int .i64 1, .int .u64 0, .int .i64 0, .int .i64 0]] W fun e w' => e = .returned (.tuple #[.agg #[.int .i64 0, .int .u64 0, .int .i64 0, .int .i64 0], .int .i64 2]) ∧ Below W.heap.size W w' := by
  have cP : ∀ (p q r s : Int) W, Calls Try.prog 58 #[.agg #[.int .i64 p, .int .u64 q, .int .i64 r, .int .i64 s]] W fun e w' => e = .returned (.bool (p == 0)) ∧ Below W.heap.size W w' := fun p q r s W => isPoison_any ⟨p, q, r, s⟩ W
  have cA : ∀ (p q r s : Int) W, Calls Try.prog 60 #[.agg #[.int .i64 p, .int .u64 q, .int .i64 r, .int .i64 s]] W fun e w' => e = .returned (.bool (p == 3)) ∧ Below W.heap.size W w' := fun p q r s W => isAny_any ⟨p, q, r, s⟩ W
  have cV := fun b W => numberV_any b W
  have b0 := bV0
  have F := (((((Fr.start W)).push (g := W.heap.size) (by simp) [.int .i64 op, .int .i64 rg, .int .i64 ty, .int .i64 n, .int .i64 fl, .slice ap al ac, .slice tp tl tc] 25).push (g := W.heap.size + 1) (by simp) [.int .i64 ak, .int .u64 ab, .int .i64 abk, .int .i64 ao] 35).push (g := W.heap.size + 1 + 1) (by simp) [.int .i64 1, .int .u64 0, .int .i64 0, .int .i64 0] 35).push (g := W.heap.size + 1 + 1 + 1) (by simp) [.int .i64 0, .int .u64 0, .int .i64 0, .int .i64 0] 35
  have G := Lib.hid F
  clear F
  go_enter Try.func40, Try.ntmps40
  go_wp2_with fail
  go_region_law (first
    | (go_simp; (with_reducible refine ((cP _ _ _ _) _).mono ?_); rintro e w9 ⟨rfl, hb⟩; have F := G.out.drew.later hb; (try clear i0 i1 i2 i3 i4 i5 i6 a0 a1 a2 a3 af b0 b1 b2 b3 bf r0 r1 r2 r3 rf); obtain ⟨i0, i1, i2, i3, i4, i5, i6⟩ := F.c7 3 rfl; obtain ⟨a0, a1, a2, a3, af⟩ := F.c4 2 rfl; obtain ⟨b0, b1, b2, b3, bf⟩ := F.c4 1 rfl; obtain ⟨r0, r1, r2, r3, rf⟩ := F.c4 0 rfl; replace G := Lib.hid F; clear F hb)
    | (go_simp; (with_reducible refine ((cP _ _ _ _) _).mono ?_); rintro e w9 ⟨rfl, hb⟩; have F := G.out.later hb; (try clear i0 i1 i2 i3 i4 i5 i6 a0 a1 a2 a3 af b0 b1 b2 b3 bf r0 r1 r2 r3 rf); obtain ⟨i0, i1, i2, i3, i4, i5, i6⟩ := F.c7 3 rfl; obtain ⟨a0, a1, a2, a3, af⟩ := F.c4 2 rfl; obtain ⟨b0, b1, b2, b3, bf⟩ := F.c4 1 rfl; obtain ⟨r0, r1, r2, r3, rf⟩ := F.c4 0 rfl; replace G := Lib.hid F; clear F hb)
    | (go_simp; (with_reducible refine ((cV _) _).mono ?_); rintro e w9 ⟨rfl, hb⟩; have F := G.out.drew.later hb; (try clear i0 i1 i2 i3 i4 i5 i6 a0 a1 a2 a3 af b0 b1 b2 b3 bf r0 r1 r2 r3 rf); obtain ⟨i0, i1, i2, i3, i4, i5, i6⟩ := F.c7 3 rfl; obtain ⟨a0, a1, a2, a3, af⟩ := F.c4 2 rfl; obtain ⟨b0, b1, b2, b3, bf⟩ := F.c4 1 rfl; obtain ⟨r0, r1, r2, r3, rf⟩ := F.c4 0 rfl; replace G := Lib.hid F; clear F hb)
    | (go_simp; (with_reducible refine ((cV _) _).mono ?_); rintro e w9 ⟨rfl, hb⟩; have F := G.out.later hb; (try clear i0 i1 i2 i3 i4 i5 i6 a0 a1 a2 a3 af b0 b1 b2 b3 bf r0 r1 r2 r3 rf); obtain ⟨i0, i1, i2, i3, i4, i5, i6⟩ := F.c7 3 rfl; obtain ⟨a0, a1, a2, a3, af⟩ := F.c4 2 rfl; obtain ⟨b0, b1, b2, b3, bf⟩ := F.c4 1 rfl; obtain ⟨r0, r1, r2, r3, rf⟩ := F.c4 0 rfl; replace G := Lib.hid F; clear F hb))
  all_goals
    go_wp2_with fail
    exact bodyPost_ret (v := .tuple #[.agg #[.int .i64 0, .int .u64 0, .int .i64 0, .int .i64 0], .int .i64 2]) (by simp [results, Try.results40, go_sem, *]) rfl ⟨rfl, G.out.set4 0 rfl _ _ _ _⟩
theorem divided_a (op rg ty n fl : Int) (ap : Option Addr) (al ac : Nat) (tp : Option Addr) (tl tc : Nat) (ak ab abk ao bb bbk bo : Int) (W : World) :
    Calls Try.prog 40 #[.agg #[.int .i64 op, .int .i64 rg, .int .i64 ty, .int .i64 n, .int .i64 fl, .slice ap al ac, .slice tp tl tc], .agg #[.int .i64 ak, .int .u64 ab, .int .i64 abk, .int .i64 ao], .agg #[.int .i64 3, .int .u64 bb, .int .i64 bbk, .int .i64 bo]] W fun e w' => e = .returned (.tuple #[.agg #[.int .i64 0, .int .u64 0, .int .i64 0, .int .i64 0], .int .i64 4]) ∧ Below W.heap.size W w' := by
  have cP : ∀ (p q r s : Int) W, Calls Try.prog 58 #[.agg #[.int .i64 p, .int .u64 q, .int .i64 r, .int .i64 s]] W fun e w' => e = .returned (.bool (p == 0)) ∧ Below W.heap.size W w' := fun p q r s W => isPoison_any ⟨p, q, r, s⟩ W
  have cA : ∀ (p q r s : Int) W, Calls Try.prog 60 #[.agg #[.int .i64 p, .int .u64 q, .int .i64 r, .int .i64 s]] W fun e w' => e = .returned (.bool (p == 3)) ∧ Below W.heap.size W w' := fun p q r s W => isAny_any ⟨p, q, r, s⟩ W
  have cV := fun b W => numberV_any b W
  have b0 := bV0
  have F := (((((Fr.start W)).push (g := W.heap.size) (by simp) [.int .i64 op, .int .i64 rg, .int .i64 ty, .int .i64 n, .int .i64 fl, .slice ap al ac, .slice tp tl tc] 25).push (g := W.heap.size + 1) (by simp) [.int .i64 ak, .int .u64 ab, .int .i64 abk, .int .i64 ao] 35).push (g := W.heap.size + 1 + 1) (by simp) [.int .i64 3, .int .u64 bb, .int .i64 bbk, .int .i64 bo] 35).push (g := W.heap.size + 1 + 1 + 1) (by simp) [.int .i64 0, .int .u64 0, .int .i64 0, .int .i64 0] 35
  have G := Lib.hid F
  clear F
  go_enter Try.func40, Try.ntmps40
  go_wp2_with fail
  go_region_law (first
    | (go_simp; (with_reducible refine ((cP _ _ _ _) _).mono ?_); rintro e w9 ⟨rfl, hb⟩; have F := G.out.drew.later hb; (try clear i0 i1 i2 i3 i4 i5 i6 a0 a1 a2 a3 af b0 b1 b2 b3 bf r0 r1 r2 r3 rf); obtain ⟨i0, i1, i2, i3, i4, i5, i6⟩ := F.c7 3 rfl; obtain ⟨a0, a1, a2, a3, af⟩ := F.c4 2 rfl; obtain ⟨b0, b1, b2, b3, bf⟩ := F.c4 1 rfl; obtain ⟨r0, r1, r2, r3, rf⟩ := F.c4 0 rfl; replace G := Lib.hid F; clear F hb)
    | (go_simp; (with_reducible refine ((cP _ _ _ _) _).mono ?_); rintro e w9 ⟨rfl, hb⟩; have F := G.out.later hb; (try clear i0 i1 i2 i3 i4 i5 i6 a0 a1 a2 a3 af b0 b1 b2 b3 bf r0 r1 r2 r3 rf); obtain ⟨i0, i1, i2, i3, i4, i5, i6⟩ := F.c7 3 rfl; obtain ⟨a0, a1, a2, a3, af⟩ := F.c4 2 rfl; obtain ⟨b0, b1, b2, b3, bf⟩ := F.c4 1 rfl; obtain ⟨r0, r1, r2, r3, rf⟩ := F.c4 0 rfl; replace G := Lib.hid F; clear F hb)
    | (go_simp; (with_reducible refine ((cV _) _).mono ?_); rintro e w9 ⟨rfl, hb⟩; have F := G.out.drew.later hb; (try clear i0 i1 i2 i3 i4 i5 i6 a0 a1 a2 a3 af b0 b1 b2 b3 bf r0 r1 r2 r3 rf); obtain ⟨i0, i1, i2, i3, i4, i5, i6⟩ := F.c7 3 rfl; obtain ⟨a0, a1, a2, a3, af⟩ := F.c4 2 rfl; obtain ⟨b0, b1, b2, b3, bf⟩ := F.c4 1 rfl; obtain ⟨r0, r1, r2, r3, rf⟩ := F.c4 0 rfl; replace G := Lib.hid F; clear F hb)
    | (go_simp; (with_reducible refine ((cV _) _).mono ?_); rintro e w9 ⟨rfl, hb⟩; have F := G.out.later hb; (try clear i0 i1 i2 i3 i4 i5 i6 a0 a1 a2 a3 af b0 b1 b2 b3 bf r0 r1 r2 r3 rf); obtain ⟨i0, i1, i2, i3, i4, i5, i6⟩ := F.c7 3 rfl; obtain ⟨a0, a1, a2, a3, af⟩ := F.c4 2 rfl; obtain ⟨b0, b1, b2, b3, bf⟩ := F.c4 1 rfl; obtain ⟨r0, r1, r2, r3, rf⟩ := F.c4 0 rfl; replace G := Lib.hid F; clear F hb))
  all_goals
    go_wp2_with (first
      | ((with_reducible refine ((cA _ _ _ _) _).mono ?_); rintro e w1 ⟨rfl, hb⟩; have F := G.out.later hb; (try clear i0 i1 i2 i3 i4 i5 i6 a0 a1 a2 a3 af b0 b1 b2 b3 bf r0 r1 r2 r3 rf); obtain ⟨i0, i1, i2, i3, i4, i5, i6⟩ := F.c7 3 rfl; obtain ⟨a0, a1, a2, a3, af⟩ := F.c4 2 rfl; obtain ⟨b0, b1, b2, b3, bf⟩ := F.c4 1 rfl; obtain ⟨r0, r1, r2, r3, rf⟩ := F.c4 0 rfl; replace G := Lib.hid F; clear F hb))
    exact bodyPost_ret (v := .tuple #[.agg #[.int .i64 0, .int .u64 0, .int .i64 0, .int .i64 0], .int .i64 4]) (by simp [results, Try.results40, go_sem, *]) rfl ⟨rfl, G.out.set4 0 rfl _ _ _ _⟩
end Go.Proofs.Ytpjfkmaceaikbaa
