/- The document's eval (latheref10): pair: gep, pointers, numbers. -/
import Derived.Test.YtpjfkmaceaikbaaReAM
import Derived.Deep.QuietTactic
import Derived.BigQuiet
namespace Go.Proofs.Ytpjfkmaceaikbaa
open Go.RowKit Go.Maps
set_option linter.unusedVariables false
set_option linter.unusedSimpArgs false
set_option maxRecDepth 100000
set_option maxHeartbeats 1000000

theorem rPair_gep (rg ty n fl : Int) (ap : Option Addr) (al ac : Nat) (tp : Option Addr) (tl tc : Nat) (c u y : Int) (W : World) :
    Calls Try.prog 34 #[.agg #[.int .i64 29, .int .i64 rg, .int .i64 ty, .int .i64 n, .int .i64 fl, .slice ap al ac, .slice tp tl tc], .agg #[.int .i64 2, .int .u64 0, .int .i64 c, .int .i64 u], .agg #[.int .i64 1, .int .u64 y, .int .i64 0, .int .i64 0]] W fun e w' => e = .returned (.tuple #[.agg #[.int .i64 2, .int .u64 0, .int .i64 c, .int .i64 (wrap64 (IntKind.u64.wrap (IntKind.u64.wrap u + y)))], .int .i64 0]) ∧ Below W.heap.size W w' := by
  have v0 := bV0
  have v3 := bV3
  have F := (((((Fr.start W).push (g := W.heap.size) (by simp) [.int .i64 29, .int .i64 rg, .int .i64 ty, .int .i64 n, .int .i64 fl, .slice ap al ac, .slice tp tl tc] 25).push (g := W.heap.size + 1) (by simp) [.int .i64 2, .int .u64 0, .int .i64 c, .int .i64 u] 35).push (g := W.heap.size + 1 + 1) (by simp) [.int .i64 1, .int .u64 y, .int .i64 0, .int .i64 0] 35).push (g := W.heap.size + 1 + 1 + 1) (by simp) [.int .i64 0, .int .u64 0, .int .i64 0, .int .i64 0] 35)
  have G := Lib.hid F
  clear F
  go_enter Try.func34, Try.ntmps34
  go_wp2_with fail
  exact bodyPost_ret (v := .tuple #[.agg #[.int .i64 2, .int .u64 0, .int .i64 c, .int .i64 (wrap64 (IntKind.u64.wrap (IntKind.u64.wrap u + y)))], .int .i64 0]) (by simp [results, Try.results34, go_sem, *]) rfl ⟨rfl, below4 W _ _ _ _⟩
theorem rPair_ptr000 (op rg n fl : Int) (ap : Option Addr) (al ac : Nat) (tp : Option Addr) (tl tc : Nat) (c u d v : Int) (W : World)
    (h29 : (op == 29) = false)
    (hp : (c == d) = false)
    (hq : (u == v) = false)
    (hr : (op == 14) = false) :
    Calls Try.prog 34 #[.agg #[.int .i64 op, .int .i64 rg, .int .i64 65, .int .i64 n, .int .i64 fl, .slice ap al ac, .slice tp tl tc], .agg #[.int .i64 2, .int .u64 0, .int .i64 c, .int .i64 u], .agg #[.int .i64 2, .int .u64 0, .int .i64 d, .int .i64 v]] W fun e w' => e = .returned (.tuple #[.agg #[.int .i64 1, .int .u64 1, .int .i64 0, .int .i64 0], .int .i64 0]) ∧ Below W.heap.size W w' := by
  have v0 := bV0
  have v3 := bV3
  have F := (((((Fr.start W).push (g := W.heap.size) (by simp) [.int .i64 op, .int .i64 rg, .int .i64 65, .int .i64 n, .int .i64 fl, .slice ap al ac, .slice tp tl tc] 25).push (g := W.heap.size + 1) (by simp) [.int .i64 2, .int .u64 0, .int .i64 c, .int .i64 u] 35).push (g := W.heap.size + 1 + 1) (by simp) [.int .i64 2, .int .u64 0, .int .i64 d, .int .i64 v] 35).push (g := W.heap.size + 1 + 1 + 1) (by simp) [.int .i64 0, .int .u64 0, .int .i64 0, .int .i64 0] 35)
  have G := Lib.hid F
  clear F
  go_enter Try.func34, Try.ntmps34
  go_wp2_with (first
    | ((with_reducible refine (rTruth_true _).mono ?_); rintro e w1 ⟨rfl, hb⟩; have F := G.out.later hb; (try clear i0 i1 i2 i3 i4 i5 i6 a0 a1 a2 a3 af b0 b1 b2 b3 bf r0 r1 r2 r3 rf); obtain ⟨i0, i1, i2, i3, i4, i5, i6⟩ := F.c7 3 rfl; obtain ⟨a0, a1, a2, a3, af⟩ := F.c4 2 rfl; obtain ⟨b0, b1, b2, b3, bf⟩ := F.c4 1 rfl; obtain ⟨r0, r1, r2, r3, rf⟩ := F.c4 0 rfl; replace G := Lib.hid F; clear F hb))
  exact bodyPost_ret (v := .tuple #[.agg #[.int .i64 1, .int .u64 1, .int .i64 0, .int .i64 0], .int .i64 0]) (by simp [results, Try.results34, go_sem, *]) rfl ⟨rfl, G.out.set4 0 rfl _ _ _ _⟩
theorem rPair_ptr001 (op rg n fl : Int) (ap : Option Addr) (al ac : Nat) (tp : Option Addr) (tl tc : Nat) (c u d v : Int) (W : World)
    (h29 : (op == 29) = false)
    (hp : (c == d) = false)
    (hq : (u == v) = false)
    (hr : (op == 14) = true) :
    Calls Try.prog 34 #[.agg #[.int .i64 op, .int .i64 rg, .int .i64 65, .int .i64 n, .int .i64 fl, .slice ap al ac, .slice tp tl tc], .agg #[.int .i64 2, .int .u64 0, .int .i64 c, .int .i64 u], .agg #[.int .i64 2, .int .u64 0, .int .i64 d, .int .i64 v]] W fun e w' => e = .returned (.tuple #[.agg #[.int .i64 1, .int .u64 0, .int .i64 0, .int .i64 0], .int .i64 0]) ∧ Below W.heap.size W w' := by
  have v0 := bV0
  have v3 := bV3
  have F := (((((Fr.start W).push (g := W.heap.size) (by simp) [.int .i64 op, .int .i64 rg, .int .i64 65, .int .i64 n, .int .i64 fl, .slice ap al ac, .slice tp tl tc] 25).push (g := W.heap.size + 1) (by simp) [.int .i64 2, .int .u64 0, .int .i64 c, .int .i64 u] 35).push (g := W.heap.size + 1 + 1) (by simp) [.int .i64 2, .int .u64 0, .int .i64 d, .int .i64 v] 35).push (g := W.heap.size + 1 + 1 + 1) (by simp) [.int .i64 0, .int .u64 0, .int .i64 0, .int .i64 0] 35)
  have G := Lib.hid F
  clear F
  go_enter Try.func34, Try.ntmps34
  go_wp2_with (first
    | ((with_reducible refine (rTruth_false _).mono ?_); rintro e w1 ⟨rfl, hb⟩; have F := G.out.later hb; (try clear i0 i1 i2 i3 i4 i5 i6 a0 a1 a2 a3 af b0 b1 b2 b3 bf r0 r1 r2 r3 rf); obtain ⟨i0, i1, i2, i3, i4, i5, i6⟩ := F.c7 3 rfl; obtain ⟨a0, a1, a2, a3, af⟩ := F.c4 2 rfl; obtain ⟨b0, b1, b2, b3, bf⟩ := F.c4 1 rfl; obtain ⟨r0, r1, r2, r3, rf⟩ := F.c4 0 rfl; replace G := Lib.hid F; clear F hb))
  exact bodyPost_ret (v := .tuple #[.agg #[.int .i64 1, .int .u64 0, .int .i64 0, .int .i64 0], .int .i64 0]) (by simp [results, Try.results34, go_sem, *]) rfl ⟨rfl, G.out.set4 0 rfl _ _ _ _⟩
theorem rPair_ptr010 (op rg n fl : Int) (ap : Option Addr) (al ac : Nat) (tp : Option Addr) (tl tc : Nat) (c u d v : Int) (W : World)
    (h29 : (op == 29) = false)
    (hp : (c == d) = false)
    (hq : (u == v) = true)
    (hr : (op == 14) = false) :
    Calls Try.prog 34 #[.agg #[.int .i64 op, .int .i64 rg, .int .i64 65, .int .i64 n, .int .i64 fl, .slice ap al ac, .slice tp tl tc], .agg #[.int .i64 2, .int .u64 0, .int .i64 c, .int .i64 u], .agg #[.int .i64 2, .int .u64 0, .int .i64 d, .int .i64 v]] W fun e w' => e = .returned (.tuple #[.agg #[.int .i64 1, .int .u64 1, .int .i64 0, .int .i64 0], .int .i64 0]) ∧ Below W.heap.size W w' := by
  have v0 := bV0
  have v3 := bV3
  have F := (((((Fr.start W).push (g := W.heap.size) (by simp) [.int .i64 op, .int .i64 rg, .int .i64 65, .int .i64 n, .int .i64 fl, .slice ap al ac, .slice tp tl tc] 25).push (g := W.heap.size + 1) (by simp) [.int .i64 2, .int .u64 0, .int .i64 c, .int .i64 u] 35).push (g := W.heap.size + 1 + 1) (by simp) [.int .i64 2, .int .u64 0, .int .i64 d, .int .i64 v] 35).push (g := W.heap.size + 1 + 1 + 1) (by simp) [.int .i64 0, .int .u64 0, .int .i64 0, .int .i64 0] 35)
  have G := Lib.hid F
  clear F
  go_enter Try.func34, Try.ntmps34
  go_wp2_with (first
    | ((with_reducible refine (rTruth_true _).mono ?_); rintro e w1 ⟨rfl, hb⟩; have F := G.out.later hb; (try clear i0 i1 i2 i3 i4 i5 i6 a0 a1 a2 a3 af b0 b1 b2 b3 bf r0 r1 r2 r3 rf); obtain ⟨i0, i1, i2, i3, i4, i5, i6⟩ := F.c7 3 rfl; obtain ⟨a0, a1, a2, a3, af⟩ := F.c4 2 rfl; obtain ⟨b0, b1, b2, b3, bf⟩ := F.c4 1 rfl; obtain ⟨r0, r1, r2, r3, rf⟩ := F.c4 0 rfl; replace G := Lib.hid F; clear F hb))
  exact bodyPost_ret (v := .tuple #[.agg #[.int .i64 1, .int .u64 1, .int .i64 0, .int .i64 0], .int .i64 0]) (by simp [results, Try.results34, go_sem, *]) rfl ⟨rfl, G.out.set4 0 rfl _ _ _ _⟩
theorem rPair_ptr011 (op rg n fl : Int) (ap : Option Addr) (al ac : Nat) (tp : Option Addr) (tl tc : Nat) (c u d v : Int) (W : World)
    (h29 : (op == 29) = false)
    (hp : (c == d) = false)
    (hq : (u == v) = true)
    (hr : (op == 14) = true) :
    Calls Try.prog 34 #[.agg #[.int .i64 op, .int .i64 rg, .int .i64 65, .int .i64 n, .int .i64 fl, .slice ap al ac, .slice tp tl tc], .agg #[.int .i64 2, .int .u64 0, .int .i64 c, .int .i64 u], .agg #[.int .i64 2, .int .u64 0, .int .i64 d, .int .i64 v]] W fun e w' => e = .returned (.tuple #[.agg #[.int .i64 1, .int .u64 0, .int .i64 0, .int .i64 0], .int .i64 0]) ∧ Below W.heap.size W w' := by
  have v0 := bV0
  have v3 := bV3
  have F := (((((Fr.start W).push (g := W.heap.size) (by simp) [.int .i64 op, .int .i64 rg, .int .i64 65, .int .i64 n, .int .i64 fl, .slice ap al ac, .slice tp tl tc] 25).push (g := W.heap.size + 1) (by simp) [.int .i64 2, .int .u64 0, .int .i64 c, .int .i64 u] 35).push (g := W.heap.size + 1 + 1) (by simp) [.int .i64 2, .int .u64 0, .int .i64 d, .int .i64 v] 35).push (g := W.heap.size + 1 + 1 + 1) (by simp) [.int .i64 0, .int .u64 0, .int .i64 0, .int .i64 0] 35)
  have G := Lib.hid F
  clear F
  go_enter Try.func34, Try.ntmps34
  go_wp2_with (first
    | ((with_reducible refine (rTruth_false _).mono ?_); rintro e w1 ⟨rfl, hb⟩; have F := G.out.later hb; (try clear i0 i1 i2 i3 i4 i5 i6 a0 a1 a2 a3 af b0 b1 b2 b3 bf r0 r1 r2 r3 rf); obtain ⟨i0, i1, i2, i3, i4, i5, i6⟩ := F.c7 3 rfl; obtain ⟨a0, a1, a2, a3, af⟩ := F.c4 2 rfl; obtain ⟨b0, b1, b2, b3, bf⟩ := F.c4 1 rfl; obtain ⟨r0, r1, r2, r3, rf⟩ := F.c4 0 rfl; replace G := Lib.hid F; clear F hb))
  exact bodyPost_ret (v := .tuple #[.agg #[.int .i64 1, .int .u64 0, .int .i64 0, .int .i64 0], .int .i64 0]) (by simp [results, Try.results34, go_sem, *]) rfl ⟨rfl, G.out.set4 0 rfl _ _ _ _⟩
theorem rPair_ptr100 (op rg n fl : Int) (ap : Option Addr) (al ac : Nat) (tp : Option Addr) (tl tc : Nat) (c u d v : Int) (W : World)
    (h29 : (op == 29) = false)
    (hp : (c == d) = true)
    (hq : (u == v) = false)
    (hr : (op == 14) = false) :
    Calls Try.prog 34 #[.agg #[.int .i64 op, .int .i64 rg, .int .i64 65, .int .i64 n, .int .i64 fl, .slice ap al ac, .slice tp tl tc], .agg #[.int .i64 2, .int .u64 0, .int .i64 c, .int .i64 u], .agg #[.int .i64 2, .int .u64 0, .int .i64 d, .int .i64 v]] W fun e w' => e = .returned (.tuple #[.agg #[.int .i64 1, .int .u64 1, .int .i64 0, .int .i64 0], .int .i64 0]) ∧ Below W.heap.size W w' := by
  have v0 := bV0
  have v3 := bV3
  have F := (((((Fr.start W).push (g := W.heap.size) (by simp) [.int .i64 op, .int .i64 rg, .int .i64 65, .int .i64 n, .int .i64 fl, .slice ap al ac, .slice tp tl tc] 25).push (g := W.heap.size + 1) (by simp) [.int .i64 2, .int .u64 0, .int .i64 c, .int .i64 u] 35).push (g := W.heap.size + 1 + 1) (by simp) [.int .i64 2, .int .u64 0, .int .i64 d, .int .i64 v] 35).push (g := W.heap.size + 1 + 1 + 1) (by simp) [.int .i64 0, .int .u64 0, .int .i64 0, .int .i64 0] 35)
  have G := Lib.hid F
  clear F
  go_enter Try.func34, Try.ntmps34
  go_wp2_with (first
    | ((with_reducible refine (rTruth_true _).mono ?_); rintro e w1 ⟨rfl, hb⟩; have F := G.out.later hb; (try clear i0 i1 i2 i3 i4 i5 i6 a0 a1 a2 a3 af b0 b1 b2 b3 bf r0 r1 r2 r3 rf); obtain ⟨i0, i1, i2, i3, i4, i5, i6⟩ := F.c7 3 rfl; obtain ⟨a0, a1, a2, a3, af⟩ := F.c4 2 rfl; obtain ⟨b0, b1, b2, b3, bf⟩ := F.c4 1 rfl; obtain ⟨r0, r1, r2, r3, rf⟩ := F.c4 0 rfl; replace G := Lib.hid F; clear F hb))
  exact bodyPost_ret (v := .tuple #[.agg #[.int .i64 1, .int .u64 1, .int .i64 0, .int .i64 0], .int .i64 0]) (by simp [results, Try.results34, go_sem, *]) rfl ⟨rfl, G.out.set4 0 rfl _ _ _ _⟩
theorem rPair_ptr101 (op rg n fl : Int) (ap : Option Addr) (al ac : Nat) (tp : Option Addr) (tl tc : Nat) (c u d v : Int) (W : World)
    (h29 : (op == 29) = false)
    (hp : (c == d) = true)
    (hq : (u == v) = false)
    (hr : (op == 14) = true) :
    Calls Try.prog 34 #[.agg #[.int .i64 op, .int .i64 rg, .int .i64 65, .int .i64 n, .int .i64 fl, .slice ap al ac, .slice tp tl tc], .agg #[.int .i64 2, .int .u64 0, .int .i64 c, .int .i64 u], .agg #[.int .i64 2, .int .u64 0, .int .i64 d, .int .i64 v]] W fun e w' => e = .returned (.tuple #[.agg #[.int .i64 1, .int .u64 0, .int .i64 0, .int .i64 0], .int .i64 0]) ∧ Below W.heap.size W w' := by
  have v0 := bV0
  have v3 := bV3
  have F := (((((Fr.start W).push (g := W.heap.size) (by simp) [.int .i64 op, .int .i64 rg, .int .i64 65, .int .i64 n, .int .i64 fl, .slice ap al ac, .slice tp tl tc] 25).push (g := W.heap.size + 1) (by simp) [.int .i64 2, .int .u64 0, .int .i64 c, .int .i64 u] 35).push (g := W.heap.size + 1 + 1) (by simp) [.int .i64 2, .int .u64 0, .int .i64 d, .int .i64 v] 35).push (g := W.heap.size + 1 + 1 + 1) (by simp) [.int .i64 0, .int .u64 0, .int .i64 0, .int .i64 0] 35)
  have G := Lib.hid F
  clear F
  go_enter Try.func34, Try.ntmps34
  go_wp2_with (first
    | ((with_reducible refine (rTruth_false _).mono ?_); rintro e w1 ⟨rfl, hb⟩; have F := G.out.later hb; (try clear i0 i1 i2 i3 i4 i5 i6 a0 a1 a2 a3 af b0 b1 b2 b3 bf r0 r1 r2 r3 rf); obtain ⟨i0, i1, i2, i3, i4, i5, i6⟩ := F.c7 3 rfl; obtain ⟨a0, a1, a2, a3, af⟩ := F.c4 2 rfl; obtain ⟨b0, b1, b2, b3, bf⟩ := F.c4 1 rfl; obtain ⟨r0, r1, r2, r3, rf⟩ := F.c4 0 rfl; replace G := Lib.hid F; clear F hb))
  exact bodyPost_ret (v := .tuple #[.agg #[.int .i64 1, .int .u64 0, .int .i64 0, .int .i64 0], .int .i64 0]) (by simp [results, Try.results34, go_sem, *]) rfl ⟨rfl, G.out.set4 0 rfl _ _ _ _⟩
theorem rPair_ptr110 (op rg n fl : Int) (ap : Option Addr) (al ac : Nat) (tp : Option Addr) (tl tc : Nat) (c u d v : Int) (W : World)
    (h29 : (op == 29) = false)
    (hp : (c == d) = true)
    (hq : (u == v) = true)
    (hr : (op == 14) = false) :
    Calls Try.prog 34 #[.agg #[.int .i64 op, .int .i64 rg, .int .i64 65, .int .i64 n, .int .i64 fl, .slice ap al ac, .slice tp tl tc], .agg #[.int .i64 2, .int .u64 0, .int .i64 c, .int .i64 u], .agg #[.int .i64 2, .int .u64 0, .int .i64 d, .int .i64 v]] W fun e w' => e = .returned (.tuple #[.agg #[.int .i64 1, .int .u64 0, .int .i64 0, .int .i64 0], .int .i64 0]) ∧ Below W.heap.size W w' := by
  have v0 := bV0
  have v3 := bV3
  have F := (((((Fr.start W).push (g := W.heap.size) (by simp) [.int .i64 op, .int .i64 rg, .int .i64 65, .int .i64 n, .int .i64 fl, .slice ap al ac, .slice tp tl tc] 25).push (g := W.heap.size + 1) (by simp) [.int .i64 2, .int .u64 0, .int .i64 c, .int .i64 u] 35).push (g := W.heap.size + 1 + 1) (by simp) [.int .i64 2, .int .u64 0, .int .i64 d, .int .i64 v] 35).push (g := W.heap.size + 1 + 1 + 1) (by simp) [.int .i64 0, .int .u64 0, .int .i64 0, .int .i64 0] 35)
  have G := Lib.hid F
  clear F
  go_enter Try.func34, Try.ntmps34
  go_wp2_with (first
    | ((with_reducible refine (rTruth_false _).mono ?_); rintro e w1 ⟨rfl, hb⟩; have F := G.out.later hb; (try clear i0 i1 i2 i3 i4 i5 i6 a0 a1 a2 a3 af b0 b1 b2 b3 bf r0 r1 r2 r3 rf); obtain ⟨i0, i1, i2, i3, i4, i5, i6⟩ := F.c7 3 rfl; obtain ⟨a0, a1, a2, a3, af⟩ := F.c4 2 rfl; obtain ⟨b0, b1, b2, b3, bf⟩ := F.c4 1 rfl; obtain ⟨r0, r1, r2, r3, rf⟩ := F.c4 0 rfl; replace G := Lib.hid F; clear F hb))
  exact bodyPost_ret (v := .tuple #[.agg #[.int .i64 1, .int .u64 0, .int .i64 0, .int .i64 0], .int .i64 0]) (by simp [results, Try.results34, go_sem, *]) rfl ⟨rfl, G.out.set4 0 rfl _ _ _ _⟩
theorem rPair_ptr111 (op rg n fl : Int) (ap : Option Addr) (al ac : Nat) (tp : Option Addr) (tl tc : Nat) (c u d v : Int) (W : World)
    (h29 : (op == 29) = false)
    (hp : (c == d) = true)
    (hq : (u == v) = true)
    (hr : (op == 14) = true) :
    Calls Try.prog 34 #[.agg #[.int .i64 op, .int .i64 rg, .int .i64 65, .int .i64 n, .int .i64 fl, .slice ap al ac, .slice tp tl tc], .agg #[.int .i64 2, .int .u64 0, .int .i64 c, .int .i64 u], .agg #[.int .i64 2, .int .u64 0, .int .i64 d, .int .i64 v]] W fun e w' => e = .returned (.tuple #[.agg #[.int .i64 1, .int .u64 1, .int .i64 0, .int .i64 0], .int .i64 0]) ∧ Below W.heap.size W w' := by
  have v0 := bV0
  have v3 := bV3
  have F := (((((Fr.start W).push (g := W.heap.size) (by simp) [.int .i64 op, .int .i64 rg, .int .i64 65, .int .i64 n, .int .i64 fl, .slice ap al ac, .slice tp tl tc] 25).push (g := W.heap.size + 1) (by simp) [.int .i64 2, .int .u64 0, .int .i64 c, .int .i64 u] 35).push (g := W.heap.size + 1 + 1) (by simp) [.int .i64 2, .int .u64 0, .int .i64 d, .int .i64 v] 35).push (g := W.heap.size + 1 + 1 + 1) (by simp) [.int .i64 0, .int .u64 0, .int .i64 0, .int .i64 0] 35)
  have G := Lib.hid F
  clear F
  go_enter Try.func34, Try.ntmps34
  go_wp2_with (first
    | ((with_reducible refine (rTruth_true _).mono ?_); rintro e w1 ⟨rfl, hb⟩; have F := G.out.later hb; (try clear i0 i1 i2 i3 i4 i5 i6 a0 a1 a2 a3 af b0 b1 b2 b3 bf r0 r1 r2 r3 rf); obtain ⟨i0, i1, i2, i3, i4, i5, i6⟩ := F.c7 3 rfl; obtain ⟨a0, a1, a2, a3, af⟩ := F.c4 2 rfl; obtain ⟨b0, b1, b2, b3, bf⟩ := F.c4 1 rfl; obtain ⟨r0, r1, r2, r3, rf⟩ := F.c4 0 rfl; replace G := Lib.hid F; clear F hb))
  exact bodyPost_ret (v := .tuple #[.agg #[.int .i64 1, .int .u64 1, .int .i64 0, .int .i64 0], .int .i64 0]) (by simp [results, Try.results34, go_sem, *]) rfl ⟨rfl, G.out.set4 0 rfl _ _ _ _⟩
theorem rPair_n (op rg ty n fl : Int) (ap : Option Addr) (al ac : Nat) (tp : Option Addr) (tl tc : Nat) (x y zk zb zbk zo E : Int) (W : World)
    (h29 : (op == 29) = false)
    (h65 : (ty == 65) = false)
    (c5 : ∀ W, Calls Try.prog 50 #[.agg #[.int .i64 op, .int .i64 rg, .int .i64 ty, .int .i64 n, .int .i64 fl, .slice ap al ac, .slice tp tl tc], .int .u64 x, .int .u64 y] W fun e w' => e = .returned (.tuple #[.agg #[.int .i64 zk, .int .u64 zb, .int .i64 zbk, .int .i64 zo], .int .i64 E]) ∧ Below W.heap.size W w') :
    Calls Try.prog 34 #[.agg #[.int .i64 op, .int .i64 rg, .int .i64 ty, .int .i64 n, .int .i64 fl, .slice ap al ac, .slice tp tl tc], .agg #[.int .i64 1, .int .u64 x, .int .i64 0, .int .i64 0], .agg #[.int .i64 1, .int .u64 y, .int .i64 0, .int .i64 0]] W fun e w' => e = .returned (.tuple #[.agg #[.int .i64 zk, .int .u64 zb, .int .i64 zbk, .int .i64 zo], .int .i64 E]) ∧ Below W.heap.size W w' := by
  have v0 := bV0
  have v3 := bV3
  have F := (((((Fr.start W).push (g := W.heap.size) (by simp) [.int .i64 op, .int .i64 rg, .int .i64 ty, .int .i64 n, .int .i64 fl, .slice ap al ac, .slice tp tl tc] 25).push (g := W.heap.size + 1) (by simp) [.int .i64 1, .int .u64 x, .int .i64 0, .int .i64 0] 35).push (g := W.heap.size + 1 + 1) (by simp) [.int .i64 1, .int .u64 y, .int .i64 0, .int .i64 0] 35).push (g := W.heap.size + 1 + 1 + 1) (by simp) [.int .i64 0, .int .u64 0, .int .i64 0, .int .i64 0] 35)
  have G := Lib.hid F
  clear F
  go_enter Try.func34, Try.ntmps34
  go_wp2_with (first
    | ((with_reducible refine (c5 _).mono ?_); rintro e w1 ⟨rfl, hb⟩; have F := G.out.later hb; (try clear i0 i1 i2 i3 i4 i5 i6 a0 a1 a2 a3 af b0 b1 b2 b3 bf r0 r1 r2 r3 rf); obtain ⟨i0, i1, i2, i3, i4, i5, i6⟩ := F.c7 3 rfl; obtain ⟨a0, a1, a2, a3, af⟩ := F.c4 2 rfl; obtain ⟨b0, b1, b2, b3, bf⟩ := F.c4 1 rfl; obtain ⟨r0, r1, r2, r3, rf⟩ := F.c4 0 rfl; replace G := Lib.hid F; clear F hb))
  exact bodyPost_ret (v := .tuple #[.agg #[.int .i64 zk, .int .u64 zb, .int .i64 zbk, .int .i64 zo], .int .i64 E]) (by simp [results, Try.results34, go_sem, *]) rfl ⟨rfl, G.out.set4 0 rfl _ _ _ _⟩
end Go.Proofs.Ytpjfkmaceaikbaa
