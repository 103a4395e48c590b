/- Package eval: converted, frozen. -/
import Derived.Test.YtpjfkmaceaikbaaEvBM
namespace Go.Proofs.Ytpjfkmaceaikbaa
open Go.RowKit Go.Maps
set_option linter.unusedVariables false
set_option linter.unusedSimpArgs false
set_option maxRecDepth 100000
set_option maxHeartbeats 1000000


theorem converted_n (op rg ty n fl : Int) (ap : Option Addr) (al ac : Nat) (tp : Option Addr) (tl tc : Nat) (x : Int) (hx : 0 ≤ x) (hx2 : x ≤ 18446744073709551615) (W : World) :
    Calls Try.prog 42 #[.agg #[.int .i64 op, .int .i64 rg, .int .i64 ty, .int .i64 n, .int .i64 fl, .slice ap al ac, .slice tp tl tc], .agg #[.int .i64 1, .int .u64 x, .int .i64 0, .int .i64 0]] W fun e w' => e = .returned (.agg #[.int .i64 1, .int .u64 (cvV op n ty x), .int .i64 0, .int .i64 0]) ∧ Below W.heap.size W w' := by
  have cN : ∀ (p q r s : Int) W, Calls Try.prog 61 #[.agg #[.int .i64 p, .int .u64 q, .int .i64 r, .int .i64 s]] W fun e w' => e = .returned (.bool (p == 1)) ∧ Below W.heap.size W w' := fun p q r s W => isNumberV_any ⟨p, q, r, s⟩ W
  have cV := fun b W => numberV_any b W
  have cC : ∀ W, Calls Try.prog 56 #[.int .i64 op, .int .i64 n, .int .i64 ty, .int .u64 x] W fun e w' => e = .returned (.tuple #[.int .u64 (cvV op n ty x), .bool (cvB op n ty)]) ∧ W = w' := fun W => Convert_any op n ty x hx hx2 W
  clear hx hx2
  obtain ⟨v, ev⟩ : ∃ v, cvV op n ty x = v := ⟨_, rfl⟩
  obtain ⟨b, eb⟩ : ∃ b, cvB op n ty = b := ⟨_, rfl⟩
  rw [ev, eb] at cC
  rw [ev]
  clear ev eb
  have cD : ∀ W, Calls Try.prog 56 #[.int .i64 op, .int .i64 n, .int .i64 ty, .int .u64 x] W fun e w' => e = .returned (.tuple #[.int .u64 v, .bool b]) ∧ Below W.heap.size W w' := fun W => (cC W).mono fun e w' ⟨h1, h2⟩ => ⟨h1, h2 ▸ Below.refl _ _⟩
  clear cC
  have F := ((((Fr.start W)).push (g := W.heap.size) (by simp) [.int .i64 op, .int .i64 rg, .int .i64 ty, .int .i64 n, .int .i64 fl, .slice ap al ac, .slice tp tl tc] 25).push (g := W.heap.size + 1) (by simp) [.int .i64 1, .int .u64 x, .int .i64 0, .int .i64 0] 35).push (g := W.heap.size + 1 + 1) (by simp) [.int .i64 0, .int .u64 0, .int .i64 0, .int .i64 0] 35
  have G := Lib.hid F
  clear F
  go_enter Try.func42, Try.ntmps42
  go_wp2_with (first
    | ((with_reducible refine ((cN _ _ _ _) _).mono ?_); rintro e w1 ⟨rfl, hb⟩; have F := G.out.later hb; (try clear i0 i1 i2 i3 i4 i5 i6 a0 a1 a2 a3 af r0 r1 r2 r3 rf); obtain ⟨i0, i1, i2, i3, i4, i5, i6⟩ := F.c7 2 rfl; obtain ⟨a0, a1, a2, a3, af⟩ := F.c4 1 rfl; obtain ⟨r0, r1, r2, r3, rf⟩ := F.c4 0 rfl; replace G := Lib.hid F; clear F hb)
    | ((with_reducible refine (cD _).mono ?_); rintro e w1 ⟨rfl, hb⟩; have F := G.out.later hb; (try clear i0 i1 i2 i3 i4 i5 i6 a0 a1 a2 a3 af r0 r1 r2 r3 rf); obtain ⟨i0, i1, i2, i3, i4, i5, i6⟩ := F.c7 2 rfl; obtain ⟨a0, a1, a2, a3, af⟩ := F.c4 1 rfl; obtain ⟨r0, r1, r2, r3, rf⟩ := F.c4 0 rfl; replace G := Lib.hid F; clear F hb)
    | ((with_reducible refine ((cV _) _).mono ?_); rintro e w1 ⟨rfl, hb⟩; have F := G.out.later hb; (try clear i0 i1 i2 i3 i4 i5 i6 a0 a1 a2 a3 af r0 r1 r2 r3 rf); obtain ⟨i0, i1, i2, i3, i4, i5, i6⟩ := F.c7 2 rfl; obtain ⟨a0, a1, a2, a3, af⟩ := F.c4 1 rfl; obtain ⟨r0, r1, r2, r3, rf⟩ := F.c4 0 rfl; replace G := Lib.hid F; clear F hb))
  exact bodyPost_ret (v := .agg #[.int .i64 1, .int .u64 v, .int .i64 0, .int .i64 0]) (by simp [results, Try.results42, go_sem, *]) rfl ⟨rfl, G.out.set4 0 rfl _ _ _ _⟩
theorem converted_o (op rg ty n fl : Int) (ap : Option Addr) (al ac : Nat) (tp : Option Addr) (tl tc : Nat) (ak ab abk ao : Int) (h1 : (ak == 1) = false) (W : World) :
    Calls Try.prog 42 #[.agg #[.int .i64 op, .int .i64 rg, .int .i64 ty, .int .i64 n, .int .i64 fl, .slice ap al ac, .slice tp tl tc], .agg #[.int .i64 ak, .int .u64 ab, .int .i64 abk, .int .i64 ao]] W fun e w' => e = .returned (.agg #[.int .i64 ak, .int .u64 ab, .int .i64 abk, .int .i64 ao]) ∧ Below W.heap.size W w' := by
  have cN : ∀ (p q r s : Int) W, Calls Try.prog 61 #[.agg #[.int .i64 p, .int .u64 q, .int .i64 r, .int .i64 s]] W fun e w' => e = .returned (.bool (p == 1)) ∧ Below W.heap.size W w' := fun p q r s W => isNumberV_any ⟨p, q, r, s⟩ W
  have cV := fun b W => numberV_any b W
  have F := ((((Fr.start W)).push (g := W.heap.size) (by simp) [.int .i64 op, .int .i64 rg, .int .i64 ty, .int .i64 n, .int .i64 fl, .slice ap al ac, .slice tp tl tc] 25).push (g := W.heap.size + 1) (by simp) [.int .i64 ak, .int .u64 ab, .int .i64 abk, .int .i64 ao] 35).push (g := W.heap.size + 1 + 1) (by simp) [.int .i64 0, .int .u64 0, .int .i64 0, .int .i64 0] 35
  have G := Lib.hid F
  clear F
  go_enter Try.func42, Try.ntmps42
  go_wp2_with (first
    | ((with_reducible refine ((cN _ _ _ _) _).mono ?_); rintro e w1 ⟨rfl, hb⟩; have F := G.out.later hb; (try clear i0 i1 i2 i3 i4 i5 i6 a0 a1 a2 a3 af r0 r1 r2 r3 rf); obtain ⟨i0, i1, i2, i3, i4, i5, i6⟩ := F.c7 2 rfl; obtain ⟨a0, a1, a2, a3, af⟩ := F.c4 1 rfl; obtain ⟨r0, r1, r2, r3, rf⟩ := F.c4 0 rfl; replace G := Lib.hid F; clear F hb))
  exact bodyPost_ret (v := .agg #[.int .i64 ak, .int .u64 ab, .int .i64 abk, .int .i64 ao]) (by simp [results, Try.results42, go_sem, *]) rfl ⟨rfl, G.out.set4 0 rfl _ _ _ _⟩
theorem frozen_p (ab abk ao : Int) (W : World) :
    Calls Try.prog 44 #[.agg #[.int .i64 0, .int .u64 ab, .int .i64 abk, .int .i64 ao]] W fun e w' => e = .returned (.agg #[.int .i64 3, .int .u64 0, .int .i64 0, .int .i64 0]) ∧ Below W.heap.size W w' := by
  have cP : ∀ (p q r s : Int) W, Calls Try.prog 58 #[.agg #[.int .i64 p, .int .u64 q, .int .i64 r, .int .i64 s]] W fun e w' => e = .returned (.bool (p == 0)) ∧ Below W.heap.size W w' := fun p q r s W => isPoison_any ⟨p, q, r, s⟩ W
  have cK := fun W => unknown_any W
  have F := (((Fr.start W)).push (g := W.heap.size) (by simp) [.int .i64 0, .int .u64 ab, .int .i64 abk, .int .i64 ao] 35).push (g := W.heap.size + 1) (by simp) [.int .i64 0, .int .u64 0, .int .i64 0, .int .i64 0] 35
  have G := Lib.hid F
  clear F
  go_enter Try.func44, Try.ntmps44
  go_wp2_with (first
    | ((with_reducible refine ((cP _ _ _ _) _).mono ?_); rintro e w1 ⟨rfl, hb⟩; have F := G.out.later hb; (try clear a0 a1 a2 a3 af r0 r1 r2 r3 rf); obtain ⟨a0, a1, a2, a3, af⟩ := F.c4 1 rfl; obtain ⟨r0, r1, r2, r3, rf⟩ := F.c4 0 rfl; replace G := Lib.hid F; clear F hb)
    | ((with_reducible refine (cK _).mono ?_); rintro e w1 ⟨rfl, hb⟩; have F := G.out.later hb; (try clear a0 a1 a2 a3 af r0 r1 r2 r3 rf); obtain ⟨a0, a1, a2, a3, af⟩ := F.c4 1 rfl; obtain ⟨r0, r1, r2, r3, rf⟩ := F.c4 0 rfl; replace G := Lib.hid F; clear F hb))
  exact bodyPost_ret (v := .agg #[.int .i64 3, .int .u64 0, .int .i64 0, .int .i64 0]) (by simp [results, Try.results44, go_sem, *]) rfl ⟨rfl, G.out.set4 0 rfl _ _ _ _⟩
theorem frozen_o (ak ab abk ao : Int) (h : (ak == 0) = false) (W : World) :
    Calls Try.prog 44 #[.agg #[.int .i64 ak, .int .u64 ab, .int .i64 abk, .int .i64 ao]] W fun e w' => e = .returned (.agg #[.int .i64 ak, .int .u64 ab, .int .i64 abk, .int .i64 ao]) ∧ Below W.heap.size W w' := by
  have cP : ∀ (p q r s : Int) W, Calls Try.prog 58 #[.agg #[.int .i64 p, .int .u64 q, .int .i64 r, .int .i64 s]] W fun e w' => e = .returned (.bool (p == 0)) ∧ Below W.heap.size W w' := fun p q r s W => isPoison_any ⟨p, q, r, s⟩ W
  have cK := fun W => unknown_any W
  have F := (((Fr.start W)).push (g := W.heap.size) (by simp) [.int .i64 ak, .int .u64 ab, .int .i64 abk, .int .i64 ao] 35).push (g := W.heap.size + 1) (by simp) [.int .i64 0, .int .u64 0, .int .i64 0, .int .i64 0] 35
  have G := Lib.hid F
  clear F
  go_enter Try.func44, Try.ntmps44
  go_wp2_with (first
    | ((with_reducible refine ((cP _ _ _ _) _).mono ?_); rintro e w1 ⟨rfl, hb⟩; have F := G.out.later hb; (try clear a0 a1 a2 a3 af r0 r1 r2 r3 rf); obtain ⟨a0, a1, a2, a3, af⟩ := F.c4 1 rfl; obtain ⟨r0, r1, r2, r3, rf⟩ := F.c4 0 rfl; replace G := Lib.hid F; clear F hb))
  exact bodyPost_ret (v := .agg #[.int .i64 ak, .int .u64 ab, .int .i64 abk, .int .i64 ao]) (by simp [results, Try.results44, go_sem, *]) rfl ⟨rfl, G.out.set4 0 rfl _ _ _ _⟩
theorem moved_p1 (ab abk ao bk bb bbk bo : Int) (W : World) :
    Calls Try.prog 45 #[.agg #[.int .i64 0, .int .u64 ab, .int .i64 abk, .int .i64 ao], .agg #[.int .i64 bk, .int .u64 bb, .int .i64 bbk, .int .i64 bo]] W fun e w' => e = .returned (.agg #[.int .i64 0, .int .u64 0, .int .i64 0, .int .i64 0]) ∧ Below W.heap.size W w' := by
  have cP : ∀ (p q r s : Int) W, Calls Try.prog 58 #[.agg #[.int .i64 p, .int .u64 q, .int .i64 r, .int .i64 s]] W fun e w' => e = .returned (.bool (p == 0)) ∧ Below W.heap.size W w' := fun p q r s W => isPoison_any ⟨p, q, r, s⟩ W
  have cA : ∀ (p q r s : Int) W, Calls Try.prog 60 #[.agg #[.int .i64 p, .int .u64 q, .int .i64 r, .int .i64 s]] W fun e w' => e = .returned (.bool (p == 3)) ∧ Below W.heap.size W w' := fun p q r s W => isAny_any ⟨p, q, r, s⟩ W
  have cK := fun W => unknown_any W
  have b0 := bV0
  have F := ((((Fr.start W)).push (g := W.heap.size) (by simp) [.int .i64 0, .int .u64 ab, .int .i64 abk, .int .i64 ao] 35).push (g := W.heap.size + 1) (by simp) [.int .i64 bk, .int .u64 bb, .int .i64 bbk, .int .i64 bo] 35).push (g := W.heap.size + 1 + 1) (by simp) [.int .i64 0, .int .u64 0, .int .i64 0, .int .i64 0] 35
  have G := Lib.hid F
  clear F
  go_enter Try.func45, Try.ntmps45
  go_wp2_with (first
    | ((with_reducible refine ((cP _ _ _ _) _).mono ?_); rintro e w1 ⟨rfl, hb⟩; have F := G.out.later hb; (try clear a0 a1 a2 a3 af b0 b1 b2 b3 bf r0 r1 r2 r3 rf); obtain ⟨a0, a1, a2, a3, af⟩ := F.c4 2 rfl; obtain ⟨b0, b1, b2, b3, bf⟩ := F.c4 1 rfl; obtain ⟨r0, r1, r2, r3, rf⟩ := F.c4 0 rfl; replace G := Lib.hid F; clear F hb))
  exact bodyPost_ret (v := .agg #[.int .i64 0, .int .u64 0, .int .i64 0, .int .i64 0]) (by simp [results, Try.results45, go_sem, *]) rfl ⟨rfl, G.out.set4 0 rfl _ _ _ _⟩
theorem moved_p2 (ak ab abk ao bb bbk bo : Int) (h : (ak == 0) = false) (W : World) :
    Calls Try.prog 45 #[.agg #[.int .i64 ak, .int .u64 ab, .int .i64 abk, .int .i64 ao], .agg #[.int .i64 0, .int .u64 bb, .int .i64 bbk, .int .i64 bo]] W fun e w' => e = .returned (.agg #[.int .i64 0, .int .u64 0, .int .i64 0, .int .i64 0]) ∧ Below W.heap.size W w' := by
  have cP : ∀ (p q r s : Int) W, Calls Try.prog 58 #[.agg #[.int .i64 p, .int .u64 q, .int .i64 r, .int .i64 s]] W fun e w' => e = .returned (.bool (p == 0)) ∧ Below W.heap.size W w' := fun p q r s W => isPoison_any ⟨p, q, r, s⟩ W
  have cA : ∀ (p q r s : Int) W, Calls Try.prog 60 #[.agg #[.int .i64 p, .int .u64 q, .int .i64 r, .int .i64 s]] W fun e w' => e = .returned (.bool (p == 3)) ∧ Below W.heap.size W w' := fun p q r s W => isAny_any ⟨p, q, r, s⟩ W
  have cK := fun W => unknown_any W
  have b0 := bV0
  have F := ((((Fr.start W)).push (g := W.heap.size) (by simp) [.int .i64 ak, .int .u64 ab, .int .i64 abk, .int .i64 ao] 35).push (g := W.heap.size + 1) (by simp) [.int .i64 0, .int .u64 bb, .int .i64 bbk, .int .i64 bo] 35).push (g := W.heap.size + 1 + 1) (by simp) [.int .i64 0, .int .u64 0, .int .i64 0, .int .i64 0] 35
  have G := Lib.hid F
  clear F
  go_enter Try.func45, Try.ntmps45
  go_wp2_with (first
    | ((with_reducible refine ((cP _ _ _ _) _).mono ?_); rintro e w1 ⟨rfl, hb⟩; have F := G.out.later hb; (try clear a0 a1 a2 a3 af b0 b1 b2 b3 bf r0 r1 r2 r3 rf); obtain ⟨a0, a1, a2, a3, af⟩ := F.c4 2 rfl; obtain ⟨b0, b1, b2, b3, bf⟩ := F.c4 1 rfl; obtain ⟨r0, r1, r2, r3, rf⟩ := F.c4 0 rfl; replace G := Lib.hid F; clear F hb))
  exact bodyPost_ret (v := .agg #[.int .i64 0, .int .u64 0, .int .i64 0, .int .i64 0]) (by simp [results, Try.results45, go_sem, *]) rfl ⟨rfl, G.out.set4 0 rfl _ _ _ _⟩
theorem moved_a1 (ab abk ao bk bb bbk bo : Int) (h : (bk == 0) = false) (W : World) :
    Calls Try.prog 45 #[.agg #[.int .i64 3, .int .u64 ab, .int .i64 abk, .int .i64 ao], .agg #[.int .i64 bk, .int .u64 bb, .int .i64 bbk, .int .i64 bo]] W fun e w' => e = .returned (.agg #[.int .i64 3, .int .u64 0, .int .i64 0, .int .i64 0]) ∧ Below W.heap.size W w' := by
  have cP : ∀ (p q r s : Int) W, Calls Try.prog 58 #[.agg #[.int .i64 p, .int .u64 q, .int .i64 r, .int .i64 s]] W fun e w' => e = .returned (.bool (p == 0)) ∧ Below W.heap.size W w' := fun p q r s W => isPoison_any ⟨p, q, r, s⟩ W
  have cA : ∀ (p q r s : Int) W, Calls Try.prog 60 #[.agg #[.int .i64 p, .int .u64 q, .int .i64 r, .int .i64 s]] W fun e w' => e = .returned (.bool (p == 3)) ∧ Below W.heap.size W w' := fun p q r s W => isAny_any ⟨p, q, r, s⟩ W
  have cK := fun W => unknown_any W
  have b0 := bV0
  have F := ((((Fr.start W)).push (g := W.heap.size) (by simp) [.int .i64 3, .int .u64 ab, .int .i64 abk, .int .i64 ao] 35).push (g := W.heap.size + 1) (by simp) [.int .i64 bk, .int .u64 bb, .int .i64 bbk, .int .i64 bo] 35).push (g := W.heap.size + 1 + 1) (by simp) [.int .i64 0, .int .u64 0, .int .i64 0, .int .i64 0] 35
  have G := Lib.hid F
  clear F
  go_enter Try.func45, Try.ntmps45
  go_wp2_with (first
    | ((with_reducible refine ((cP _ _ _ _) _).mono ?_); rintro e w1 ⟨rfl, hb⟩; have F := G.out.later hb; (try clear a0 a1 a2 a3 af b0 b1 b2 b3 bf r0 r1 r2 r3 rf); obtain ⟨a0, a1, a2, a3, af⟩ := F.c4 2 rfl; obtain ⟨b0, b1, b2, b3, bf⟩ := F.c4 1 rfl; obtain ⟨r0, r1, r2, r3, rf⟩ := F.c4 0 rfl; replace G := Lib.hid F; clear F hb)
    | ((with_reducible refine ((cA _ _ _ _) _).mono ?_); rintro e w1 ⟨rfl, hb⟩; have F := G.out.later hb; (try clear a0 a1 a2 a3 af b0 b1 b2 b3 bf r0 r1 r2 r3 rf); obtain ⟨a0, a1, a2, a3, af⟩ := F.c4 2 rfl; obtain ⟨b0, b1, b2, b3, bf⟩ := F.c4 1 rfl; obtain ⟨r0, r1, r2, r3, rf⟩ := F.c4 0 rfl; replace G := Lib.hid F; clear F hb)
    | ((with_reducible refine (cK _).mono ?_); rintro e w1 ⟨rfl, hb⟩; have F := G.out.later hb; (try clear a0 a1 a2 a3 af b0 b1 b2 b3 bf r0 r1 r2 r3 rf); obtain ⟨a0, a1, a2, a3, af⟩ := F.c4 2 rfl; obtain ⟨b0, b1, b2, b3, bf⟩ := F.c4 1 rfl; obtain ⟨r0, r1, r2, r3, rf⟩ := F.c4 0 rfl; replace G := Lib.hid F; clear F hb))
  exact bodyPost_ret (v := .agg #[.int .i64 3, .int .u64 0, .int .i64 0, .int .i64 0]) (by simp [results, Try.results45, go_sem, *]) rfl ⟨rfl, G.out.set4 0 rfl _ _ _ _⟩
theorem moved_a2 (ak ab abk ao bb bbk bo : Int) (h : (ak == 0) = false) (h3 : (ak == 3) = false) (W : World) :
    Calls Try.prog 45 #[.agg #[.int .i64 ak, .int .u64 ab, .int .i64 abk, .int .i64 ao], .agg #[.int .i64 3, .int .u64 bb, .int .i64 bbk, .int .i64 bo]] W fun e w' => e = .returned (.agg #[.int .i64 3, .int .u64 0, .int .i64 0, .int .i64 0]) ∧ Below W.heap.size W w' := by
  have cP : ∀ (p q r s : Int) W, Calls Try.prog 58 #[.agg #[.int .i64 p, .int .u64 q, .int .i64 r, .int .i64 s]] W fun e w' => e = .returned (.bool (p == 0)) ∧ Below W.heap.size W w' := fun p q r s W => isPoison_any ⟨p, q, r, s⟩ W
  have cA : ∀ (p q r s : Int) W, Calls Try.prog 60 #[.agg #[.int .i64 p, .int .u64 q, .int .i64 r, .int .i64 s]] W fun e w' => e = .returned (.bool (p == 3)) ∧ Below W.heap.size W w' := fun p q r s W => isAny_any ⟨p, q, r, s⟩ W
  have cK := fun W => unknown_any W
  have b0 := bV0
  have F := ((((Fr.start W)).push (g := W.heap.size) (by simp) [.int .i64 ak, .int .u64 ab, .int .i64 abk, .int .i64 ao] 35).push (g := W.heap.size + 1) (by simp) [.int .i64 3, .int .u64 bb, .int .i64 bbk, .int .i64 bo] 35).push (g := W.heap.size + 1 + 1) (by simp) [.int .i64 0, .int .u64 0, .int .i64 0, .int .i64 0] 35
  have G := Lib.hid F
  clear F
  go_enter Try.func45, Try.ntmps45
  go_wp2_with (first
    | ((with_reducible refine ((cP _ _ _ _) _).mono ?_); rintro e w1 ⟨rfl, hb⟩; have F := G.out.later hb; (try clear a0 a1 a2 a3 af b0 b1 b2 b3 bf r0 r1 r2 r3 rf); obtain ⟨a0, a1, a2, a3, af⟩ := F.c4 2 rfl; obtain ⟨b0, b1, b2, b3, bf⟩ := F.c4 1 rfl; obtain ⟨r0, r1, r2, r3, rf⟩ := F.c4 0 rfl; replace G := Lib.hid F; clear F hb)
    | ((with_reducible refine ((cA _ _ _ _) _).mono ?_); rintro e w1 ⟨rfl, hb⟩; have F := G.out.later hb; (try clear a0 a1 a2 a3 af b0 b1 b2 b3 bf r0 r1 r2 r3 rf); obtain ⟨a0, a1, a2, a3, af⟩ := F.c4 2 rfl; obtain ⟨b0, b1, b2, b3, bf⟩ := F.c4 1 rfl; obtain ⟨r0, r1, r2, r3, rf⟩ := F.c4 0 rfl; replace G := Lib.hid F; clear F hb)
    | ((with_reducible refine (cK _).mono ?_); rintro e w1 ⟨rfl, hb⟩; have F := G.out.later hb; (try clear a0 a1 a2 a3 af b0 b1 b2 b3 bf r0 r1 r2 r3 rf); obtain ⟨a0, a1, a2, a3, af⟩ := F.c4 2 rfl; obtain ⟨b0, b1, b2, b3, bf⟩ := F.c4 1 rfl; obtain ⟨r0, r1, r2, r3, rf⟩ := F.c4 0 rfl; replace G := Lib.hid F; clear F hb))
  exact bodyPost_ret (v := .agg #[.int .i64 3, .int .u64 0, .int .i64 0, .int .i64 0]) (by simp [results, Try.results45, go_sem, *]) rfl ⟨rfl, G.out.set4 0 rfl _ _ _ _⟩
end Go.Proofs.Ytpjfkmaceaikbaa
