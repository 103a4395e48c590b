/- The document's eval (latheref10): divided. -/
import Derived.Test.YtpjfkmaceaikbaaReAM
import Derived.Deep.QuietTactic
import Derived.BigQuiet
namespace Go.Proofs.Ytpjfkmaceaikbaa
open Go.RowKit Go.Maps
set_option linter.unusedVariables false
set_option linter.unusedSimpArgs false
set_option maxRecDepth 100000
set_option maxHeartbeats 1000000

theorem rDiv_p_s5 (op rg ty n fl : Int) (ap : Option Addr) (al ac : Nat) (tp : Option Addr) (tl tc : Nat) (ak ab abk ao bb bbk bo : Int) (W : World)
    (q5 : (op == 5) = true) :
    Calls Try.prog 28 #[.agg #[.int .i64 op, .int .i64 rg, .int .i64 ty, .int .i64 n, .int .i64 fl, .slice ap al ac, .slice tp tl tc], .agg #[.int .i64 ak, .int .u64 ab, .int .i64 abk, .int .i64 ao], .agg #[.int .i64 0, .int .u64 bb, .int .i64 bbk, .int .i64 bo]] W fun e w' => e = .returned (.tuple #[.agg #[.int .i64 0, .int .u64 0, .int .i64 0, .int .i64 0], .int .i64 2]) ∧ Below W.heap.size W w' := by
  have v0 := bV0
  have F := (((((Fr.start W).push (g := W.heap.size) (by simp) [.int .i64 op, .int .i64 rg, .int .i64 ty, .int .i64 n, .int .i64 fl, .slice ap al ac, .slice tp tl tc] 25).push (g := W.heap.size + 1) (by simp) [.int .i64 ak, .int .u64 ab, .int .i64 abk, .int .i64 ao] 35).push (g := W.heap.size + 1 + 1) (by simp) [.int .i64 0, .int .u64 bb, .int .i64 bbk, .int .i64 bo] 35).push (g := W.heap.size + 1 + 1 + 1) (by simp) [.int .i64 0, .int .u64 0, .int .i64 0, .int .i64 0] 35)
  have G := Lib.hid F
  clear F
  go_enter Try.func28, Try.ntmps28
  go_wp2_with fail
  go_quiet (fail)
  replace G := Lib.hid (G.out.drewN nq)
  go_wp2_with fail
  exact bodyPost_ret (v := .tuple #[.agg #[.int .i64 0, .int .u64 0, .int .i64 0, .int .i64 0], .int .i64 2]) (by simp [results, Try.results28, go_sem, *]) rfl ⟨rfl, G.out.set4 0 rfl _ _ _ _⟩
theorem rDiv_a_s5 (op rg ty n fl : Int) (ap : Option Addr) (al ac : Nat) (tp : Option Addr) (tl tc : Nat) (ak ab abk ao bb bbk bo : Int) (W : World)
    (q5 : (op == 5) = true) :
    Calls Try.prog 28 #[.agg #[.int .i64 op, .int .i64 rg, .int .i64 ty, .int .i64 n, .int .i64 fl, .slice ap al ac, .slice tp tl tc], .agg #[.int .i64 ak, .int .u64 ab, .int .i64 abk, .int .i64 ao], .agg #[.int .i64 3, .int .u64 bb, .int .i64 bbk, .int .i64 bo]] W fun e w' => e = .returned (.tuple #[.agg #[.int .i64 0, .int .u64 0, .int .i64 0, .int .i64 0], .int .i64 4]) ∧ Below W.heap.size W w' := by
  have v0 := bV0
  have F := (((((Fr.start W).push (g := W.heap.size) (by simp) [.int .i64 op, .int .i64 rg, .int .i64 ty, .int .i64 n, .int .i64 fl, .slice ap al ac, .slice tp tl tc] 25).push (g := W.heap.size + 1) (by simp) [.int .i64 ak, .int .u64 ab, .int .i64 abk, .int .i64 ao] 35).push (g := W.heap.size + 1 + 1) (by simp) [.int .i64 3, .int .u64 bb, .int .i64 bbk, .int .i64 bo] 35).push (g := W.heap.size + 1 + 1 + 1) (by simp) [.int .i64 0, .int .u64 0, .int .i64 0, .int .i64 0] 35)
  have G := Lib.hid F
  clear F
  go_enter Try.func28, Try.ntmps28
  go_wp2_with fail
  go_quiet (fail)
  replace G := Lib.hid (G.out.drewN nq)
  go_wp2_with fail
  exact bodyPost_ret (v := .tuple #[.agg #[.int .i64 0, .int .u64 0, .int .i64 0, .int .i64 0], .int .i64 4]) (by simp [results, Try.results28, go_sem, *]) rfl ⟨rfl, G.out.set4 0 rfl _ _ _ _⟩
theorem rDiv_z_s5 (op rg ty n fl : Int) (ap : Option Addr) (al ac : Nat) (tp : Option Addr) (tl tc : Nat) (ak ab abk ao m : Int) (W : World)
    (q5 : (op == 5) = true)
    (cM : ∀ W, Calls Try.prog 49 #[.int .i64 ty] W fun e w' => e = .returned (.int .u64 m) ∧ W = w') :
    Calls Try.prog 28 #[.agg #[.int .i64 op, .int .i64 rg, .int .i64 ty, .int .i64 n, .int .i64 fl, .slice ap al ac, .slice tp tl tc], .agg #[.int .i64 ak, .int .u64 ab, .int .i64 abk, .int .i64 ao], .agg #[.int .i64 1, .int .u64 0, .int .i64 0, .int .i64 0]] W fun e w' => e = .returned (.tuple #[.agg #[.int .i64 0, .int .u64 0, .int .i64 0, .int .i64 0], .int .i64 2]) ∧ Below W.heap.size W w' := by
  have v0 := bV0
  have F := (((((Fr.start W).push (g := W.heap.size) (by simp) [.int .i64 op, .int .i64 rg, .int .i64 ty, .int .i64 n, .int .i64 fl, .slice ap al ac, .slice tp tl tc] 25).push (g := W.heap.size + 1) (by simp) [.int .i64 ak, .int .u64 ab, .int .i64 abk, .int .i64 ao] 35).push (g := W.heap.size + 1 + 1) (by simp) [.int .i64 1, .int .u64 0, .int .i64 0, .int .i64 0] 35).push (g := W.heap.size + 1 + 1 + 1) (by simp) [.int .i64 0, .int .u64 0, .int .i64 0, .int .i64 0] 35)
  have G := Lib.hid F
  clear F
  go_enter Try.func28, Try.ntmps28
  go_wp2_with fail
  go_quiet ((go_at_call 49; exact Calls.quiet_of_same ((cM _).mono fun _ _ ⟨x, y⟩ => ⟨x, y.symm⟩)))
  replace G := Lib.hid (G.out.drewN nq)
  go_wp2_with fail
  exact bodyPost_ret (v := .tuple #[.agg #[.int .i64 0, .int .u64 0, .int .i64 0, .int .i64 0], .int .i64 2]) (by simp [results, Try.results28, go_sem, *]) rfl ⟨rfl, G.out.set4 0 rfl _ _ _ _⟩
theorem rDiv_np_s5 (op rg ty n fl : Int) (ap : Option Addr) (al ac : Nat) (tp : Option Addr) (tl tc : Nat) (ab abk ao y m : Int) (W : World)
    (q5 : (op == 5) = true)
    (hy : (y == 0) = false)
    (cM : ∀ W, Calls Try.prog 49 #[.int .i64 ty] W fun e w' => e = .returned (.int .u64 m) ∧ W = w')
    (hm : (y == m) = false) :
    Calls Try.prog 28 #[.agg #[.int .i64 op, .int .i64 rg, .int .i64 ty, .int .i64 n, .int .i64 fl, .slice ap al ac, .slice tp tl tc], .agg #[.int .i64 0, .int .u64 ab, .int .i64 abk, .int .i64 ao], .agg #[.int .i64 1, .int .u64 y, .int .i64 0, .int .i64 0]] W fun e w' => e = .returned (.tuple #[.agg #[.int .i64 0, .int .u64 0, .int .i64 0, .int .i64 0], .int .i64 0]) ∧ Below W.heap.size W w' := by
  have v0 := bV0
  have F := (((((Fr.start W).push (g := W.heap.size) (by simp) [.int .i64 op, .int .i64 rg, .int .i64 ty, .int .i64 n, .int .i64 fl, .slice ap al ac, .slice tp tl tc] 25).push (g := W.heap.size + 1) (by simp) [.int .i64 0, .int .u64 ab, .int .i64 abk, .int .i64 ao] 35).push (g := W.heap.size + 1 + 1) (by simp) [.int .i64 1, .int .u64 y, .int .i64 0, .int .i64 0] 35).push (g := W.heap.size + 1 + 1 + 1) (by simp) [.int .i64 0, .int .u64 0, .int .i64 0, .int .i64 0] 35)
  have G := Lib.hid F
  clear F
  go_enter Try.func28, Try.ntmps28
  go_wp2_with fail
  go_quiet ((go_at_call 49; exact Calls.quiet_of_same ((cM _).mono fun _ _ ⟨x, y⟩ => ⟨x, y.symm⟩)))
  replace G := Lib.hid (G.out.drewN nq)
  go_wp2_with fail
  exact bodyPost_ret (v := .tuple #[.agg #[.int .i64 0, .int .u64 0, .int .i64 0, .int .i64 0], .int .i64 0]) (by simp [results, Try.results28, go_sem, *]) rfl ⟨rfl, G.out.set4 0 rfl _ _ _ _⟩
theorem rDiv_nu_s5 (op rg ty n fl : Int) (ap : Option Addr) (al ac : Nat) (tp : Option Addr) (tl tc : Nat) (ab abk ao y m : Int) (W : World)
    (q5 : (op == 5) = true)
    (hy : (y == 0) = false)
    (cM : ∀ W, Calls Try.prog 49 #[.int .i64 ty] W fun e w' => e = .returned (.int .u64 m) ∧ W = w')
    (hm : (y == m) = false)
    (hf : (fl != 0) = true) :
    Calls Try.prog 28 #[.agg #[.int .i64 op, .int .i64 rg, .int .i64 ty, .int .i64 n, .int .i64 fl, .slice ap al ac, .slice tp tl tc], .agg #[.int .i64 3, .int .u64 ab, .int .i64 abk, .int .i64 ao], .agg #[.int .i64 1, .int .u64 y, .int .i64 0, .int .i64 0]] W fun e w' => e = .returned (.tuple #[.agg #[.int .i64 0, .int .u64 0, .int .i64 0, .int .i64 0], .int .i64 0]) ∧ Below W.heap.size W w' := by
  have v0 := bV0
  have F := (((((Fr.start W).push (g := W.heap.size) (by simp) [.int .i64 op, .int .i64 rg, .int .i64 ty, .int .i64 n, .int .i64 fl, .slice ap al ac, .slice tp tl tc] 25).push (g := W.heap.size + 1) (by simp) [.int .i64 3, .int .u64 ab, .int .i64 abk, .int .i64 ao] 35).push (g := W.heap.size + 1 + 1) (by simp) [.int .i64 1, .int .u64 y, .int .i64 0, .int .i64 0] 35).push (g := W.heap.size + 1 + 1 + 1) (by simp) [.int .i64 0, .int .u64 0, .int .i64 0, .int .i64 0] 35)
  have G := Lib.hid F
  clear F
  go_enter Try.func28, Try.ntmps28
  go_wp2_with fail
  go_quiet ((go_at_call 49; exact Calls.quiet_of_same ((cM _).mono fun _ _ ⟨x, y⟩ => ⟨x, y.symm⟩)))
  replace G := Lib.hid (G.out.drewN nq)
  go_wp2_with fail
  exact bodyPost_ret (v := .tuple #[.agg #[.int .i64 0, .int .u64 0, .int .i64 0, .int .i64 0], .int .i64 0]) (by simp [results, Try.results28, go_sem, *]) rfl ⟨rfl, G.out.set4 0 rfl _ _ _ _⟩
theorem rDiv_na_s5 (op rg ty n fl : Int) (ap : Option Addr) (al ac : Nat) (tp : Option Addr) (tl tc : Nat) (ab abk ao y m : Int) (W : World)
    (q5 : (op == 5) = true)
    (hy : (y == 0) = false)
    (cM : ∀ W, Calls Try.prog 49 #[.int .i64 ty] W fun e w' => e = .returned (.int .u64 m) ∧ W = w')
    (hm : (y == m) = false)
    (hf : (fl != 0) = false) :
    Calls Try.prog 28 #[.agg #[.int .i64 op, .int .i64 rg, .int .i64 ty, .int .i64 n, .int .i64 fl, .slice ap al ac, .slice tp tl tc], .agg #[.int .i64 3, .int .u64 ab, .int .i64 abk, .int .i64 ao], .agg #[.int .i64 1, .int .u64 y, .int .i64 0, .int .i64 0]] W fun e w' => e = .returned (.tuple #[.agg #[.int .i64 3, .int .u64 0, .int .i64 0, .int .i64 0], .int .i64 0]) ∧ Below W.heap.size W w' := by
  have v0 := bV0
  have F := (((((Fr.start W).push (g := W.heap.size) (by simp) [.int .i64 op, .int .i64 rg, .int .i64 ty, .int .i64 n, .int .i64 fl, .slice ap al ac, .slice tp tl tc] 25).push (g := W.heap.size + 1) (by simp) [.int .i64 3, .int .u64 ab, .int .i64 abk, .int .i64 ao] 35).push (g := W.heap.size + 1 + 1) (by simp) [.int .i64 1, .int .u64 y, .int .i64 0, .int .i64 0] 35).push (g := W.heap.size + 1 + 1 + 1) (by simp) [.int .i64 0, .int .u64 0, .int .i64 0, .int .i64 0] 35)
  have G := Lib.hid F
  clear F
  go_enter Try.func28, Try.ntmps28
  go_wp2_with fail
  go_quiet ((go_at_call 49; exact Calls.quiet_of_same ((cM _).mono fun _ _ ⟨x, y⟩ => ⟨x, y.symm⟩)))
  replace G := Lib.hid (G.out.drewN nq)
  go_wp2_with (first
    | ((with_reducible refine (rAnyV_any _).mono ?_); rintro e w1 ⟨rfl, hb⟩; have F := G.out.later hb; (try clear i0 i1 i2 i3 i4 i5 i6 a0 a1 a2 a3 af b0 b1 b2 b3 bf r0 r1 r2 r3 rf); obtain ⟨i0, i1, i2, i3, i4, i5, i6⟩ := F.c7 3 rfl; obtain ⟨a0, a1, a2, a3, af⟩ := F.c4 2 rfl; obtain ⟨b0, b1, b2, b3, bf⟩ := F.c4 1 rfl; obtain ⟨r0, r1, r2, r3, rf⟩ := F.c4 0 rfl; replace G := Lib.hid F; clear F hb))
  exact bodyPost_ret (v := .tuple #[.agg #[.int .i64 3, .int .u64 0, .int .i64 0, .int .i64 0], .int .i64 0]) (by simp [results, Try.results28, go_sem, *]) rfl ⟨rfl, G.out.set4 0 rfl _ _ _ _⟩
theorem rDiv_nn_s5 (op rg ty n fl : Int) (ap : Option Addr) (al ac : Nat) (tp : Option Addr) (tl tc : Nat) (x y m zk zb zbk zo E : Int) (W : World)
    (q5 : (op == 5) = true)
    (hy : (y == 0) = false)
    (cM : ∀ W, Calls Try.prog 49 #[.int .i64 ty] W fun e w' => e = .returned (.int .u64 m) ∧ W = w')
    (hm : (y == m) = false)
    (c5 : ∀ W, Calls Try.prog 50 #[.agg #[.int .i64 op, .int .i64 rg, .int .i64 ty, .int .i64 n, .int .i64 fl, .slice ap al ac, .slice tp tl tc], .int .u64 x, .int .u64 y] W fun e w' => e = .returned (.tuple #[.agg #[.int .i64 zk, .int .u64 zb, .int .i64 zbk, .int .i64 zo], .int .i64 E]) ∧ Below W.heap.size W w') :
    Calls Try.prog 28 #[.agg #[.int .i64 op, .int .i64 rg, .int .i64 ty, .int .i64 n, .int .i64 fl, .slice ap al ac, .slice tp tl tc], .agg #[.int .i64 1, .int .u64 x, .int .i64 0, .int .i64 0], .agg #[.int .i64 1, .int .u64 y, .int .i64 0, .int .i64 0]] W fun e w' => e = .returned (.tuple #[.agg #[.int .i64 zk, .int .u64 zb, .int .i64 zbk, .int .i64 zo], .int .i64 E]) ∧ Below W.heap.size W w' := by
  have v0 := bV0
  have F := (((((Fr.start W).push (g := W.heap.size) (by simp) [.int .i64 op, .int .i64 rg, .int .i64 ty, .int .i64 n, .int .i64 fl, .slice ap al ac, .slice tp tl tc] 25).push (g := W.heap.size + 1) (by simp) [.int .i64 1, .int .u64 x, .int .i64 0, .int .i64 0] 35).push (g := W.heap.size + 1 + 1) (by simp) [.int .i64 1, .int .u64 y, .int .i64 0, .int .i64 0] 35).push (g := W.heap.size + 1 + 1 + 1) (by simp) [.int .i64 0, .int .u64 0, .int .i64 0, .int .i64 0] 35)
  have G := Lib.hid F
  clear F
  go_enter Try.func28, Try.ntmps28
  go_wp2_with fail
  go_quiet ((go_at_call 49; exact Calls.quiet_of_same ((cM _).mono fun _ _ ⟨x, y⟩ => ⟨x, y.symm⟩)))
  replace G := Lib.hid (G.out.drewN nq)
  go_wp2_with (first
    | ((with_reducible refine (c5 _).mono ?_); rintro e w1 ⟨rfl, hb⟩; have F := G.out.later hb; (try clear i0 i1 i2 i3 i4 i5 i6 a0 a1 a2 a3 af b0 b1 b2 b3 bf r0 r1 r2 r3 rf); obtain ⟨i0, i1, i2, i3, i4, i5, i6⟩ := F.c7 3 rfl; obtain ⟨a0, a1, a2, a3, af⟩ := F.c4 2 rfl; obtain ⟨b0, b1, b2, b3, bf⟩ := F.c4 1 rfl; obtain ⟨r0, r1, r2, r3, rf⟩ := F.c4 0 rfl; replace G := Lib.hid F; clear F hb))
  exact bodyPost_ret (v := .tuple #[.agg #[.int .i64 zk, .int .u64 zb, .int .i64 zbk, .int .i64 zo], .int .i64 E]) (by simp [results, Try.results28, go_sem, *]) rfl ⟨rfl, G.out.set4 0 rfl _ _ _ _⟩
theorem rDiv_mp_s5 (op rg ty n fl : Int) (ap : Option Addr) (al ac : Nat) (tp : Option Addr) (tl tc : Nat) (ab abk ao y : Int) (W : World)
    (q5 : (op == 5) = true)
    (hy : (y == 0) = false)
    (cM : ∀ W, Calls Try.prog 49 #[.int .i64 ty] W fun e w' => e = .returned (.int .u64 y) ∧ W = w') :
    Calls Try.prog 28 #[.agg #[.int .i64 op, .int .i64 rg, .int .i64 ty, .int .i64 n, .int .i64 fl, .slice ap al ac, .slice tp tl tc], .agg #[.int .i64 0, .int .u64 ab, .int .i64 abk, .int .i64 ao], .agg #[.int .i64 1, .int .u64 y, .int .i64 0, .int .i64 0]] W fun e w' => e = .returned (.tuple #[.agg #[.int .i64 0, .int .u64 0, .int .i64 0, .int .i64 0], .int .i64 2]) ∧ Below W.heap.size W w' := by
  have v0 := bV0
  have F := (((((Fr.start W).push (g := W.heap.size) (by simp) [.int .i64 op, .int .i64 rg, .int .i64 ty, .int .i64 n, .int .i64 fl, .slice ap al ac, .slice tp tl tc] 25).push (g := W.heap.size + 1) (by simp) [.int .i64 0, .int .u64 ab, .int .i64 abk, .int .i64 ao] 35).push (g := W.heap.size + 1 + 1) (by simp) [.int .i64 1, .int .u64 y, .int .i64 0, .int .i64 0] 35).push (g := W.heap.size + 1 + 1 + 1) (by simp) [.int .i64 0, .int .u64 0, .int .i64 0, .int .i64 0] 35)
  have G := Lib.hid F
  clear F
  go_enter Try.func28, Try.ntmps28
  go_wp2_with fail
  go_quiet ((go_at_call 49; exact Calls.quiet_of_same ((cM _).mono fun _ _ ⟨x, y⟩ => ⟨x, y.symm⟩)))
  replace G := Lib.hid (G.out.drewN nq)
  go_wp2_with fail
  exact bodyPost_ret (v := .tuple #[.agg #[.int .i64 0, .int .u64 0, .int .i64 0, .int .i64 0], .int .i64 2]) (by simp [results, Try.results28, go_sem, *]) rfl ⟨rfl, G.out.set4 0 rfl _ _ _ _⟩
theorem rDiv_ma_s5 (op rg ty n fl : Int) (ap : Option Addr) (al ac : Nat) (tp : Option Addr) (tl tc : Nat) (ab abk ao y : Int) (W : World)
    (q5 : (op == 5) = true)
    (hy : (y == 0) = false)
    (cM : ∀ W, Calls Try.prog 49 #[.int .i64 ty] W fun e w' => e = .returned (.int .u64 y) ∧ W = w') :
    Calls Try.prog 28 #[.agg #[.int .i64 op, .int .i64 rg, .int .i64 ty, .int .i64 n, .int .i64 fl, .slice ap al ac, .slice tp tl tc], .agg #[.int .i64 3, .int .u64 ab, .int .i64 abk, .int .i64 ao], .agg #[.int .i64 1, .int .u64 y, .int .i64 0, .int .i64 0]] W fun e w' => e = .returned (.tuple #[.agg #[.int .i64 0, .int .u64 0, .int .i64 0, .int .i64 0], .int .i64 4]) ∧ Below W.heap.size W w' := by
  have v0 := bV0
  have F := (((((Fr.start W).push (g := W.heap.size) (by simp) [.int .i64 op, .int .i64 rg, .int .i64 ty, .int .i64 n, .int .i64 fl, .slice ap al ac, .slice tp tl tc] 25).push (g := W.heap.size + 1) (by simp) [.int .i64 3, .int .u64 ab, .int .i64 abk, .int .i64 ao] 35).push (g := W.heap.size + 1 + 1) (by simp) [.int .i64 1, .int .u64 y, .int .i64 0, .int .i64 0] 35).push (g := W.heap.size + 1 + 1 + 1) (by simp) [.int .i64 0, .int .u64 0, .int .i64 0, .int .i64 0] 35)
  have G := Lib.hid F
  clear F
  go_enter Try.func28, Try.ntmps28
  go_wp2_with fail
  go_quiet ((go_at_call 49; exact Calls.quiet_of_same ((cM _).mono fun _ _ ⟨x, y⟩ => ⟨x, y.symm⟩)))
  replace G := Lib.hid (G.out.drewN nq)
  go_wp2_with fail
  exact bodyPost_ret (v := .tuple #[.agg #[.int .i64 0, .int .u64 0, .int .i64 0, .int .i64 0], .int .i64 4]) (by simp [results, Try.results28, go_sem, *]) rfl ⟨rfl, G.out.set4 0 rfl _ _ _ _⟩
theorem rDiv_mn_s5 (op rg ty n fl : Int) (ap : Option Addr) (al ac : Nat) (tp : Option Addr) (tl tc : Nat) (x y zk zb zbk zo E : Int) (W : World)
    (q5 : (op == 5) = true)
    (hy : (y == 0) = false)
    (cM : ∀ W, Calls Try.prog 49 #[.int .i64 ty] W fun e w' => e = .returned (.int .u64 y) ∧ W = w')
    (c5 : ∀ W, Calls Try.prog 50 #[.agg #[.int .i64 op, .int .i64 rg, .int .i64 ty, .int .i64 n, .int .i64 fl, .slice ap al ac, .slice tp tl tc], .int .u64 x, .int .u64 y] W fun e w' => e = .returned (.tuple #[.agg #[.int .i64 zk, .int .u64 zb, .int .i64 zbk, .int .i64 zo], .int .i64 E]) ∧ Below W.heap.size W w') :
    Calls Try.prog 28 #[.agg #[.int .i64 op, .int .i64 rg, .int .i64 ty, .int .i64 n, .int .i64 fl, .slice ap al ac, .slice tp tl tc], .agg #[.int .i64 1, .int .u64 x, .int .i64 0, .int .i64 0], .agg #[.int .i64 1, .int .u64 y, .int .i64 0, .int .i64 0]] W fun e w' => e = .returned (.tuple #[.agg #[.int .i64 zk, .int .u64 zb, .int .i64 zbk, .int .i64 zo], .int .i64 E]) ∧ Below W.heap.size W w' := by
  have v0 := bV0
  have F := (((((Fr.start W).push (g := W.heap.size) (by simp) [.int .i64 op, .int .i64 rg, .int .i64 ty, .int .i64 n, .int .i64 fl, .slice ap al ac, .slice tp tl tc] 25).push (g := W.heap.size + 1) (by simp) [.int .i64 1, .int .u64 x, .int .i64 0, .int .i64 0] 35).push (g := W.heap.size + 1 + 1) (by simp) [.int .i64 1, .int .u64 y, .int .i64 0, .int .i64 0] 35).push (g := W.heap.size + 1 + 1 + 1) (by simp) [.int .i64 0, .int .u64 0, .int .i64 0, .int .i64 0] 35)
  have G := Lib.hid F
  clear F
  go_enter Try.func28, Try.ntmps28
  go_wp2_with fail
  go_quiet ((go_at_call 49; exact Calls.quiet_of_same ((cM _).mono fun _ _ ⟨x, y⟩ => ⟨x, y.symm⟩)))
  replace G := Lib.hid (G.out.drewN nq)
  go_wp2_with (first
    | ((with_reducible refine (c5 _).mono ?_); rintro e w1 ⟨rfl, hb⟩; have F := G.out.later hb; (try clear i0 i1 i2 i3 i4 i5 i6 a0 a1 a2 a3 af b0 b1 b2 b3 bf r0 r1 r2 r3 rf); obtain ⟨i0, i1, i2, i3, i4, i5, i6⟩ := F.c7 3 rfl; obtain ⟨a0, a1, a2, a3, af⟩ := F.c4 2 rfl; obtain ⟨b0, b1, b2, b3, bf⟩ := F.c4 1 rfl; obtain ⟨r0, r1, r2, r3, rf⟩ := F.c4 0 rfl; replace G := Lib.hid F; clear F hb))
  exact bodyPost_ret (v := .tuple #[.agg #[.int .i64 zk, .int .u64 zb, .int .i64 zbk, .int .i64 zo], .int .i64 E]) (by simp [results, Try.results28, go_sem, *]) rfl ⟨rfl, G.out.set4 0 rfl _ _ _ _⟩
theorem rDiv_p_s7 (op rg ty n fl : Int) (ap : Option Addr) (al ac : Nat) (tp : Option Addr) (tl tc : Nat) (ak ab abk ao bb bbk bo : Int) (W : World)
    (q5 : (op == 5) = false)
    (q7 : (op == 7) = true) :
    Calls Try.prog 28 #[.agg #[.int .i64 op, .int .i64 rg, .int .i64 ty, .int .i64 n, .int .i64 fl, .slice ap al ac, .slice tp tl tc], .agg #[.int .i64 ak, .int .u64 ab, .int .i64 abk, .int .i64 ao], .agg #[.int .i64 0, .int .u64 bb, .int .i64 bbk, .int .i64 bo]] W fun e w' => e = .returned (.tuple #[.agg #[.int .i64 0, .int .u64 0, .int .i64 0, .int .i64 0], .int .i64 2]) ∧ Below W.heap.size W w' := by
  have v0 := bV0
  have F := (((((Fr.start W).push (g := W.heap.size) (by simp) [.int .i64 op, .int .i64 rg, .int .i64 ty, .int .i64 n, .int .i64 fl, .slice ap al ac, .slice tp tl tc] 25).push (g := W.heap.size + 1) (by simp) [.int .i64 ak, .int .u64 ab, .int .i64 abk, .int .i64 ao] 35).push (g := W.heap.size + 1 + 1) (by simp) [.int .i64 0, .int .u64 bb, .int .i64 bbk, .int .i64 bo] 35).push (g := W.heap.size + 1 + 1 + 1) (by simp) [.int .i64 0, .int .u64 0, .int .i64 0, .int .i64 0] 35)
  have G := Lib.hid F
  clear F
  go_enter Try.func28, Try.ntmps28
  go_wp2_with fail
  go_quiet (fail)
  replace G := Lib.hid (G.out.drewN nq)
  go_wp2_with fail
  exact bodyPost_ret (v := .tuple #[.agg #[.int .i64 0, .int .u64 0, .int .i64 0, .int .i64 0], .int .i64 2]) (by simp [results, Try.results28, go_sem, *]) rfl ⟨rfl, G.out.set4 0 rfl _ _ _ _⟩
theorem rDiv_a_s7 (op rg ty n fl : Int) (ap : Option Addr) (al ac : Nat) (tp : Option Addr) (tl tc : Nat) (ak ab abk ao bb bbk bo : Int) (W : World)
    (q5 : (op == 5) = false)
    (q7 : (op == 7) = true) :
    Calls Try.prog 28 #[.agg #[.int .i64 op, .int .i64 rg, .int .i64 ty, .int .i64 n, .int .i64 fl, .slice ap al ac, .slice tp tl tc], .agg #[.int .i64 ak, .int .u64 ab, .int .i64 abk, .int .i64 ao], .agg #[.int .i64 3, .int .u64 bb, .int .i64 bbk, .int .i64 bo]] W fun e w' => e = .returned (.tuple #[.agg #[.int .i64 0, .int .u64 0, .int .i64 0, .int .i64 0], .int .i64 4]) ∧ Below W.heap.size W w' := by
  have v0 := bV0
  have F := (((((Fr.start W).push (g := W.heap.size) (by simp) [.int .i64 op, .int .i64 rg, .int .i64 ty, .int .i64 n, .int .i64 fl, .slice ap al ac, .slice tp tl tc] 25).push (g := W.heap.size + 1) (by simp) [.int .i64 ak, .int .u64 ab, .int .i64 abk, .int .i64 ao] 35).push (g := W.heap.size + 1 + 1) (by simp) [.int .i64 3, .int .u64 bb, .int .i64 bbk, .int .i64 bo] 35).push (g := W.heap.size + 1 + 1 + 1) (by simp) [.int .i64 0, .int .u64 0, .int .i64 0, .int .i64 0] 35)
  have G := Lib.hid F
  clear F
  go_enter Try.func28, Try.ntmps28
  go_wp2_with fail
  go_quiet (fail)
  replace G := Lib.hid (G.out.drewN nq)
  go_wp2_with fail
  exact bodyPost_ret (v := .tuple #[.agg #[.int .i64 0, .int .u64 0, .int .i64 0, .int .i64 0], .int .i64 4]) (by simp [results, Try.results28, go_sem, *]) rfl ⟨rfl, G.out.set4 0 rfl _ _ _ _⟩
theorem rDiv_z_s7 (op rg ty n fl : Int) (ap : Option Addr) (al ac : Nat) (tp : Option Addr) (tl tc : Nat) (ak ab abk ao m : Int) (W : World)
    (q5 : (op == 5) = false)
    (q7 : (op == 7) = true)
    (cM : ∀ W, Calls Try.prog 49 #[.int .i64 ty] W fun e w' => e = .returned (.int .u64 m) ∧ W = w') :
    Calls Try.prog 28 #[.agg #[.int .i64 op, .int .i64 rg, .int .i64 ty, .int .i64 n, .int .i64 fl, .slice ap al ac, .slice tp tl tc], .agg #[.int .i64 ak, .int .u64 ab, .int .i64 abk, .int .i64 ao], .agg #[.int .i64 1, .int .u64 0, .int .i64 0, .int .i64 0]] W fun e w' => e = .returned (.tuple #[.agg #[.int .i64 0, .int .u64 0, .int .i64 0, .int .i64 0], .int .i64 2]) ∧ Below W.heap.size W w' := by
  have v0 := bV0
  have F := (((((Fr.start W).push (g := W.heap.size) (by simp) [.int .i64 op, .int .i64 rg, .int .i64 ty, .int .i64 n, .int .i64 fl, .slice ap al ac, .slice tp tl tc] 25).push (g := W.heap.size + 1) (by simp) [.int .i64 ak, .int .u64 ab, .int .i64 abk, .int .i64 ao] 35).push (g := W.heap.size + 1 + 1) (by simp) [.int .i64 1, .int .u64 0, .int .i64 0, .int .i64 0] 35).push (g := W.heap.size + 1 + 1 + 1) (by simp) [.int .i64 0, .int .u64 0, .int .i64 0, .int .i64 0] 35)
  have G := Lib.hid F
  clear F
  go_enter Try.func28, Try.ntmps28
  go_wp2_with fail
  go_quiet ((go_at_call 49; exact Calls.quiet_of_same ((cM _).mono fun _ _ ⟨x, y⟩ => ⟨x, y.symm⟩)))
  replace G := Lib.hid (G.out.drewN nq)
  go_wp2_with fail
  exact bodyPost_ret (v := .tuple #[.agg #[.int .i64 0, .int .u64 0, .int .i64 0, .int .i64 0], .int .i64 2]) (by simp [results, Try.results28, go_sem, *]) rfl ⟨rfl, G.out.set4 0 rfl _ _ _ _⟩
theorem rDiv_np_s7 (op rg ty n fl : Int) (ap : Option Addr) (al ac : Nat) (tp : Option Addr) (tl tc : Nat) (ab abk ao y m : Int) (W : World)
    (q5 : (op == 5) = false)
    (q7 : (op == 7) = true)
    (hy : (y == 0) = false)
    (cM : ∀ W, Calls Try.prog 49 #[.int .i64 ty] W fun e w' => e = .returned (.int .u64 m) ∧ W = w')
    (hm : (y == m) = false) :
    Calls Try.prog 28 #[.agg #[.int .i64 op, .int .i64 rg, .int .i64 ty, .int .i64 n, .int .i64 fl, .slice ap al ac, .slice tp tl tc], .agg #[.int .i64 0, .int .u64 ab, .int .i64 abk, .int .i64 ao], .agg #[.int .i64 1, .int .u64 y, .int .i64 0, .int .i64 0]] W fun e w' => e = .returned (.tuple #[.agg #[.int .i64 0, .int .u64 0, .int .i64 0, .int .i64 0], .int .i64 0]) ∧ Below W.heap.size W w' := by
  have v0 := bV0
  have F := (((((Fr.start W).push (g := W.heap.size) (by simp) [.int .i64 op, .int .i64 rg, .int .i64 ty, .int .i64 n, .int .i64 fl, .slice ap al ac, .slice tp tl tc] 25).push (g := W.heap.size + 1) (by simp) [.int .i64 0, .int .u64 ab, .int .i64 abk, .int .i64 ao] 35).push (g := W.heap.size + 1 + 1) (by simp) [.int .i64 1, .int .u64 y, .int .i64 0, .int .i64 0] 35).push (g := W.heap.size + 1 + 1 + 1) (by simp) [.int .i64 0, .int .u64 0, .int .i64 0, .int .i64 0] 35)
  have G := Lib.hid F
  clear F
  go_enter Try.func28, Try.ntmps28
  go_wp2_with fail
  go_quiet ((go_at_call 49; exact Calls.quiet_of_same ((cM _).mono fun _ _ ⟨x, y⟩ => ⟨x, y.symm⟩)))
  replace G := Lib.hid (G.out.drewN nq)
  go_wp2_with fail
  exact bodyPost_ret (v := .tuple #[.agg #[.int .i64 0, .int .u64 0, .int .i64 0, .int .i64 0], .int .i64 0]) (by simp [results, Try.results28, go_sem, *]) rfl ⟨rfl, G.out.set4 0 rfl _ _ _ _⟩
theorem rDiv_nu_s7 (op rg ty n fl : Int) (ap : Option Addr) (al ac : Nat) (tp : Option Addr) (tl tc : Nat) (ab abk ao y m : Int) (W : World)
    (q5 : (op == 5) = false)
    (q7 : (op == 7) = true)
    (hy : (y == 0) = false)
    (cM : ∀ W, Calls Try.prog 49 #[.int .i64 ty] W fun e w' => e = .returned (.int .u64 m) ∧ W = w')
    (hm : (y == m) = false)
    (hf : (fl != 0) = true) :
    Calls Try.prog 28 #[.agg #[.int .i64 op, .int .i64 rg, .int .i64 ty, .int .i64 n, .int .i64 fl, .slice ap al ac, .slice tp tl tc], .agg #[.int .i64 3, .int .u64 ab, .int .i64 abk, .int .i64 ao], .agg #[.int .i64 1, .int .u64 y, .int .i64 0, .int .i64 0]] W fun e w' => e = .returned (.tuple #[.agg #[.int .i64 0, .int .u64 0, .int .i64 0, .int .i64 0], .int .i64 0]) ∧ Below W.heap.size W w' := by
  have v0 := bV0
  have F := (((((Fr.start W).push (g := W.heap.size) (by simp) [.int .i64 op, .int .i64 rg, .int .i64 ty, .int .i64 n, .int .i64 fl, .slice ap al ac, .slice tp tl tc] 25).push (g := W.heap.size + 1) (by simp) [.int .i64 3, .int .u64 ab, .int .i64 abk, .int .i64 ao] 35).push (g := W.heap.size + 1 + 1) (by simp) [.int .i64 1, .int .u64 y, .int .i64 0, .int .i64 0] 35).push (g := W.heap.size + 1 + 1 + 1) (by simp) [.int .i64 0, .int .u64 0, .int .i64 0, .int .i64 0] 35)
  have G := Lib.hid F
  clear F
  go_enter Try.func28, Try.ntmps28
  go_wp2_with fail
  go_quiet ((go_at_call 49; exact Calls.quiet_of_same ((cM _).mono fun _ _ ⟨x, y⟩ => ⟨x, y.symm⟩)))
  replace G := Lib.hid (G.out.drewN nq)
  go_wp2_with fail
  exact bodyPost_ret (v := .tuple #[.agg #[.int .i64 0, .int .u64 0, .int .i64 0, .int .i64 0], .int .i64 0]) (by simp [results, Try.results28, go_sem, *]) rfl ⟨rfl, G.out.set4 0 rfl _ _ _ _⟩
theorem rDiv_na_s7 (op rg ty n fl : Int) (ap : Option Addr) (al ac : Nat) (tp : Option Addr) (tl tc : Nat) (ab abk ao y m : Int) (W : World)
    (q5 : (op == 5) = false)
    (q7 : (op == 7) = true)
    (hy : (y == 0) = false)
    (cM : ∀ W, Calls Try.prog 49 #[.int .i64 ty] W fun e w' => e = .returned (.int .u64 m) ∧ W = w')
    (hm : (y == m) = false)
    (hf : (fl != 0) = false) :
    Calls Try.prog 28 #[.agg #[.int .i64 op, .int .i64 rg, .int .i64 ty, .int .i64 n, .int .i64 fl, .slice ap al ac, .slice tp tl tc], .agg #[.int .i64 3, .int .u64 ab, .int .i64 abk, .int .i64 ao], .agg #[.int .i64 1, .int .u64 y, .int .i64 0, .int .i64 0]] W fun e w' => e = .returned (.tuple #[.agg #[.int .i64 3, .int .u64 0, .int .i64 0, .int .i64 0], .int .i64 0]) ∧ Below W.heap.size W w' := by
  have v0 := bV0
  have F := (((((Fr.start W).push (g := W.heap.size) (by simp) [.int .i64 op, .int .i64 rg, .int .i64 ty, .int .i64 n, .int .i64 fl, .slice ap al ac, .slice tp tl tc] 25).push (g := W.heap.size + 1) (by simp) [.int .i64 3, .int .u64 ab, .int .i64 abk, .int .i64 ao] 35).push (g := W.heap.size + 1 + 1) (by simp) [.int .i64 1, .int .u64 y, .int .i64 0, .int .i64 0] 35).push (g := W.heap.size + 1 + 1 + 1) (by simp) [.int .i64 0, .int .u64 0, .int .i64 0, .int .i64 0] 35)
  have G := Lib.hid F
  clear F
  go_enter Try.func28, Try.ntmps28
  go_wp2_with fail
  go_quiet ((go_at_call 49; exact Calls.quiet_of_same ((cM _).mono fun _ _ ⟨x, y⟩ => ⟨x, y.symm⟩)))
  replace G := Lib.hid (G.out.drewN nq)
  go_wp2_with (first
    | ((with_reducible refine (rAnyV_any _).mono ?_); rintro e w1 ⟨rfl, hb⟩; have F := G.out.later hb; (try clear i0 i1 i2 i3 i4 i5 i6 a0 a1 a2 a3 af b0 b1 b2 b3 bf r0 r1 r2 r3 rf); obtain ⟨i0, i1, i2, i3, i4, i5, i6⟩ := F.c7 3 rfl; obtain ⟨a0, a1, a2, a3, af⟩ := F.c4 2 rfl; obtain ⟨b0, b1, b2, b3, bf⟩ := F.c4 1 rfl; obtain ⟨r0, r1, r2, r3, rf⟩ := F.c4 0 rfl; replace G := Lib.hid F; clear F hb))
  exact bodyPost_ret (v := .tuple #[.agg #[.int .i64 3, .int .u64 0, .int .i64 0, .int .i64 0], .int .i64 0]) (by simp [results, Try.results28, go_sem, *]) rfl ⟨rfl, G.out.set4 0 rfl _ _ _ _⟩
theorem rDiv_nn_s7 (op rg ty n fl : Int) (ap : Option Addr) (al ac : Nat) (tp : Option Addr) (tl tc : Nat) (x y m zk zb zbk zo E : Int) (W : World)
    (q5 : (op == 5) = false)
    (q7 : (op == 7) = true)
    (hy : (y == 0) = false)
    (cM : ∀ W, Calls Try.prog 49 #[.int .i64 ty] W fun e w' => e = .returned (.int .u64 m) ∧ W = w')
    (hm : (y == m) = false)
    (c5 : ∀ W, Calls Try.prog 50 #[.agg #[.int .i64 op, .int .i64 rg, .int .i64 ty, .int .i64 n, .int .i64 fl, .slice ap al ac, .slice tp tl tc], .int .u64 x, .int .u64 y] W fun e w' => e = .returned (.tuple #[.agg #[.int .i64 zk, .int .u64 zb, .int .i64 zbk, .int .i64 zo], .int .i64 E]) ∧ Below W.heap.size W w') :
    Calls Try.prog 28 #[.agg #[.int .i64 op, .int .i64 rg, .int .i64 ty, .int .i64 n, .int .i64 fl, .slice ap al ac, .slice tp tl tc], .agg #[.int .i64 1, .int .u64 x, .int .i64 0, .int .i64 0], .agg #[.int .i64 1, .int .u64 y, .int .i64 0, .int .i64 0]] W fun e w' => e = .returned (.tuple #[.agg #[.int .i64 zk, .int .u64 zb, .int .i64 zbk, .int .i64 zo], .int .i64 E]) ∧ Below W.heap.size W w' := by
  have v0 := bV0
  have F := (((((Fr.start W).push (g := W.heap.size) (by simp) [.int .i64 op, .int .i64 rg, .int .i64 ty, .int .i64 n, .int .i64 fl, .slice ap al ac, .slice tp tl tc] 25).push (g := W.heap.size + 1) (by simp) [.int .i64 1, .int .u64 x, .int .i64 0, .int .i64 0] 35).push (g := W.heap.size + 1 + 1) (by simp) [.int .i64 1, .int .u64 y, .int .i64 0, .int .i64 0] 35).push (g := W.heap.size + 1 + 1 + 1) (by simp) [.int .i64 0, .int .u64 0, .int .i64 0, .int .i64 0] 35)
  have G := Lib.hid F
  clear F
  go_enter Try.func28, Try.ntmps28
  go_wp2_with fail
  go_quiet ((go_at_call 49; exact Calls.quiet_of_same ((cM _).mono fun _ _ ⟨x, y⟩ => ⟨x, y.symm⟩)))
  replace G := Lib.hid (G.out.drewN nq)
  go_wp2_with (first
    | ((with_reducible refine (c5 _).mono ?_); rintro e w1 ⟨rfl, hb⟩; have F := G.out.later hb; (try clear i0 i1 i2 i3 i4 i5 i6 a0 a1 a2 a3 af b0 b1 b2 b3 bf r0 r1 r2 r3 rf); obtain ⟨i0, i1, i2, i3, i4, i5, i6⟩ := F.c7 3 rfl; obtain ⟨a0, a1, a2, a3, af⟩ := F.c4 2 rfl; obtain ⟨b0, b1, b2, b3, bf⟩ := F.c4 1 rfl; obtain ⟨r0, r1, r2, r3, rf⟩ := F.c4 0 rfl; replace G := Lib.hid F; clear F hb))
  exact bodyPost_ret (v := .tuple #[.agg #[.int .i64 zk, .int .u64 zb, .int .i64 zbk, .int .i64 zo], .int .i64 E]) (by simp [results, Try.results28, go_sem, *]) rfl ⟨rfl, G.out.set4 0 rfl _ _ _ _⟩
theorem rDiv_mp_s7 (op rg ty n fl : Int) (ap : Option Addr) (al ac : Nat) (tp : Option Addr) (tl tc : Nat) (ab abk ao y : Int) (W : World)
    (q5 : (op == 5) = false)
    (q7 : (op == 7) = true)
    (hy : (y == 0) = false)
    (cM : ∀ W, Calls Try.prog 49 #[.int .i64 ty] W fun e w' => e = .returned (.int .u64 y) ∧ W = w') :
    Calls Try.prog 28 #[.agg #[.int .i64 op, .int .i64 rg, .int .i64 ty, .int .i64 n, .int .i64 fl, .slice ap al ac, .slice tp tl tc], .agg #[.int .i64 0, .int .u64 ab, .int .i64 abk, .int .i64 ao], .agg #[.int .i64 1, .int .u64 y, .int .i64 0, .int .i64 0]] W fun e w' => e = .returned (.tuple #[.agg #[.int .i64 0, .int .u64 0, .int .i64 0, .int .i64 0], .int .i64 2]) ∧ Below W.heap.size W w' := by
  have v0 := bV0
  have F := (((((Fr.start W).push (g := W.heap.size) (by simp) [.int .i64 op, .int .i64 rg, .int .i64 ty, .int .i64 n, .int .i64 fl, .slice ap al ac, .slice tp tl tc] 25).push (g := W.heap.size + 1) (by simp) [.int .i64 0, .int .u64 ab, .int .i64 abk, .int .i64 ao] 35).push (g := W.heap.size + 1 + 1) (by simp) [.int .i64 1, .int .u64 y, .int .i64 0, .int .i64 0] 35).push (g := W.heap.size + 1 + 1 + 1) (by simp) [.int .i64 0, .int .u64 0, .int .i64 0, .int .i64 0] 35)
  have G := Lib.hid F
  clear F
  go_enter Try.func28, Try.ntmps28
  go_wp2_with fail
  go_quiet ((go_at_call 49; exact Calls.quiet_of_same ((cM _).mono fun _ _ ⟨x, y⟩ => ⟨x, y.symm⟩)))
  replace G := Lib.hid (G.out.drewN nq)
  go_wp2_with fail
  exact bodyPost_ret (v := .tuple #[.agg #[.int .i64 0, .int .u64 0, .int .i64 0, .int .i64 0], .int .i64 2]) (by simp [results, Try.results28, go_sem, *]) rfl ⟨rfl, G.out.set4 0 rfl _ _ _ _⟩
theorem rDiv_ma_s7 (op rg ty n fl : Int) (ap : Option Addr) (al ac : Nat) (tp : Option Addr) (tl tc : Nat) (ab abk ao y : Int) (W : World)
    (q5 : (op == 5) = false)
    (q7 : (op == 7) = true)
    (hy : (y == 0) = false)
    (cM : ∀ W, Calls Try.prog 49 #[.int .i64 ty] W fun e w' => e = .returned (.int .u64 y) ∧ W = w') :
    Calls Try.prog 28 #[.agg #[.int .i64 op, .int .i64 rg, .int .i64 ty, .int .i64 n, .int .i64 fl, .slice ap al ac, .slice tp tl tc], .agg #[.int .i64 3, .int .u64 ab, .int .i64 abk, .int .i64 ao], .agg #[.int .i64 1, .int .u64 y, .int .i64 0, .int .i64 0]] W fun e w' => e = .returned (.tuple #[.agg #[.int .i64 0, .int .u64 0, .int .i64 0, .int .i64 0], .int .i64 4]) ∧ Below W.heap.size W w' := by
  have v0 := bV0
  have F := (((((Fr.start W).push (g := W.heap.size) (by simp) [.int .i64 op, .int .i64 rg, .int .i64 ty, .int .i64 n, .int .i64 fl, .slice ap al ac, .slice tp tl tc] 25).push (g := W.heap.size + 1) (by simp) [.int .i64 3, .int .u64 ab, .int .i64 abk, .int .i64 ao] 35).push (g := W.heap.size + 1 + 1) (by simp) [.int .i64 1, .int .u64 y, .int .i64 0, .int .i64 0] 35).push (g := W.heap.size + 1 + 1 + 1) (by simp) [.int .i64 0, .int .u64 0, .int .i64 0, .int .i64 0] 35)
  have G := Lib.hid F
  clear F
  go_enter Try.func28, Try.ntmps28
  go_wp2_with fail
  go_quiet ((go_at_call 49; exact Calls.quiet_of_same ((cM _).mono fun _ _ ⟨x, y⟩ => ⟨x, y.symm⟩)))
  replace G := Lib.hid (G.out.drewN nq)
  go_wp2_with fail
  exact bodyPost_ret (v := .tuple #[.agg #[.int .i64 0, .int .u64 0, .int .i64 0, .int .i64 0], .int .i64 4]) (by simp [results, Try.results28, go_sem, *]) rfl ⟨rfl, G.out.set4 0 rfl _ _ _ _⟩
theorem rDiv_mn_s7 (op rg ty n fl : Int) (ap : Option Addr) (al ac : Nat) (tp : Option Addr) (tl tc : Nat) (x y zk zb zbk zo E : Int) (W : World)
    (q5 : (op == 5) = false)
    (q7 : (op == 7) = true)
    (hy : (y == 0) = false)
    (cM : ∀ W, Calls Try.prog 49 #[.int .i64 ty] W fun e w' => e = .returned (.int .u64 y) ∧ W = w')
    (c5 : ∀ W, Calls Try.prog 50 #[.agg #[.int .i64 op, .int .i64 rg, .int .i64 ty, .int .i64 n, .int .i64 fl, .slice ap al ac, .slice tp tl tc], .int .u64 x, .int .u64 y] W fun e w' => e = .returned (.tuple #[.agg #[.int .i64 zk, .int .u64 zb, .int .i64 zbk, .int .i64 zo], .int .i64 E]) ∧ Below W.heap.size W w') :
    Calls Try.prog 28 #[.agg #[.int .i64 op, .int .i64 rg, .int .i64 ty, .int .i64 n, .int .i64 fl, .slice ap al ac, .slice tp tl tc], .agg #[.int .i64 1, .int .u64 x, .int .i64 0, .int .i64 0], .agg #[.int .i64 1, .int .u64 y, .int .i64 0, .int .i64 0]] W fun e w' => e = .returned (.tuple #[.agg #[.int .i64 zk, .int .u64 zb, .int .i64 zbk, .int .i64 zo], .int .i64 E]) ∧ Below W.heap.size W w' := by
  have v0 := bV0
  have F := (((((Fr.start W).push (g := W.heap.size) (by simp) [.int .i64 op, .int .i64 rg, .int .i64 ty, .int .i64 n, .int .i64 fl, .slice ap al ac, .slice tp tl tc] 25).push (g := W.heap.size + 1) (by simp) [.int .i64 1, .int .u64 x, .int .i64 0, .int .i64 0] 35).push (g := W.heap.size + 1 + 1) (by simp) [.int .i64 1, .int .u64 y, .int .i64 0, .int .i64 0] 35).push (g := W.heap.size + 1 + 1 + 1) (by simp) [.int .i64 0, .int .u64 0, .int .i64 0, .int .i64 0] 35)
  have G := Lib.hid F
  clear F
  go_enter Try.func28, Try.ntmps28
  go_wp2_with fail
  go_quiet ((go_at_call 49; exact Calls.quiet_of_same ((cM _).mono fun _ _ ⟨x, y⟩ => ⟨x, y.symm⟩)))
  replace G := Lib.hid (G.out.drewN nq)
  go_wp2_with (first
    | ((with_reducible refine (c5 _).mono ?_); rintro e w1 ⟨rfl, hb⟩; have F := G.out.later hb; (try clear i0 i1 i2 i3 i4 i5 i6 a0 a1 a2 a3 af b0 b1 b2 b3 bf r0 r1 r2 r3 rf); obtain ⟨i0, i1, i2, i3, i4, i5, i6⟩ := F.c7 3 rfl; obtain ⟨a0, a1, a2, a3, af⟩ := F.c4 2 rfl; obtain ⟨b0, b1, b2, b3, bf⟩ := F.c4 1 rfl; obtain ⟨r0, r1, r2, r3, rf⟩ := F.c4 0 rfl; replace G := Lib.hid F; clear F hb))
  exact bodyPost_ret (v := .tuple #[.agg #[.int .i64 zk, .int .u64 zb, .int .i64 zbk, .int .i64 zo], .int .i64 E]) (by simp [results, Try.results28, go_sem, *]) rfl ⟨rfl, G.out.set4 0 rfl _ _ _ _⟩
theorem rDiv_p_u (op rg ty n fl : Int) (ap : Option Addr) (al ac : Nat) (tp : Option Addr) (tl tc : Nat) (ak ab abk ao bb bbk bo : Int) (W : World)
    (q5 : (op == 5) = false)
    (q7 : (op == 7) = false) :
    Calls Try.prog 28 #[.agg #[.int .i64 op, .int .i64 rg, .int .i64 ty, .int .i64 n, .int .i64 fl, .slice ap al ac, .slice tp tl tc], .agg #[.int .i64 ak, .int .u64 ab, .int .i64 abk, .int .i64 ao], .agg #[.int .i64 0, .int .u64 bb, .int .i64 bbk, .int .i64 bo]] W fun e w' => e = .returned (.tuple #[.agg #[.int .i64 0, .int .u64 0, .int .i64 0, .int .i64 0], .int .i64 2]) ∧ Below W.heap.size W w' := by
  have v0 := bV0
  have F := (((((Fr.start W).push (g := W.heap.size) (by simp) [.int .i64 op, .int .i64 rg, .int .i64 ty, .int .i64 n, .int .i64 fl, .slice ap al ac, .slice tp tl tc] 25).push (g := W.heap.size + 1) (by simp) [.int .i64 ak, .int .u64 ab, .int .i64 abk, .int .i64 ao] 35).push (g := W.heap.size + 1 + 1) (by simp) [.int .i64 0, .int .u64 bb, .int .i64 bbk, .int .i64 bo] 35).push (g := W.heap.size + 1 + 1 + 1) (by simp) [.int .i64 0, .int .u64 0, .int .i64 0, .int .i64 0] 35)
  have G := Lib.hid F
  clear F
  go_enter Try.func28, Try.ntmps28
  go_wp2_with fail
  go_quiet (fail)
  replace G := Lib.hid (G.out.drewN nq)
  go_wp2_with fail
  exact bodyPost_ret (v := .tuple #[.agg #[.int .i64 0, .int .u64 0, .int .i64 0, .int .i64 0], .int .i64 2]) (by simp [results, Try.results28, go_sem, *]) rfl ⟨rfl, G.out.set4 0 rfl _ _ _ _⟩
theorem rDiv_a_u (op rg ty n fl : Int) (ap : Option Addr) (al ac : Nat) (tp : Option Addr) (tl tc : Nat) (ak ab abk ao bb bbk bo : Int) (W : World)
    (q5 : (op == 5) = false)
    (q7 : (op == 7) = false) :
    Calls Try.prog 28 #[.agg #[.int .i64 op, .int .i64 rg, .int .i64 ty, .int .i64 n, .int .i64 fl, .slice ap al ac, .slice tp tl tc], .agg #[.int .i64 ak, .int .u64 ab, .int .i64 abk, .int .i64 ao], .agg #[.int .i64 3, .int .u64 bb, .int .i64 bbk, .int .i64 bo]] W fun e w' => e = .returned (.tuple #[.agg #[.int .i64 0, .int .u64 0, .int .i64 0, .int .i64 0], .int .i64 4]) ∧ Below W.heap.size W w' := by
  have v0 := bV0
  have F := (((((Fr.start W).push (g := W.heap.size) (by simp) [.int .i64 op, .int .i64 rg, .int .i64 ty, .int .i64 n, .int .i64 fl, .slice ap al ac, .slice tp tl tc] 25).push (g := W.heap.size + 1) (by simp) [.int .i64 ak, .int .u64 ab, .int .i64 abk, .int .i64 ao] 35).push (g := W.heap.size + 1 + 1) (by simp) [.int .i64 3, .int .u64 bb, .int .i64 bbk, .int .i64 bo] 35).push (g := W.heap.size + 1 + 1 + 1) (by simp) [.int .i64 0, .int .u64 0, .int .i64 0, .int .i64 0] 35)
  have G := Lib.hid F
  clear F
  go_enter Try.func28, Try.ntmps28
  go_wp2_with fail
  go_quiet (fail)
  replace G := Lib.hid (G.out.drewN nq)
  go_wp2_with fail
  exact bodyPost_ret (v := .tuple #[.agg #[.int .i64 0, .int .u64 0, .int .i64 0, .int .i64 0], .int .i64 4]) (by simp [results, Try.results28, go_sem, *]) rfl ⟨rfl, G.out.set4 0 rfl _ _ _ _⟩
theorem rDiv_z_u (op rg ty n fl : Int) (ap : Option Addr) (al ac : Nat) (tp : Option Addr) (tl tc : Nat) (ak ab abk ao : Int) (W : World)
    (q5 : (op == 5) = false)
    (q7 : (op == 7) = false) :
    Calls Try.prog 28 #[.agg #[.int .i64 op, .int .i64 rg, .int .i64 ty, .int .i64 n, .int .i64 fl, .slice ap al ac, .slice tp tl tc], .agg #[.int .i64 ak, .int .u64 ab, .int .i64 abk, .int .i64 ao], .agg #[.int .i64 1, .int .u64 0, .int .i64 0, .int .i64 0]] W fun e w' => e = .returned (.tuple #[.agg #[.int .i64 0, .int .u64 0, .int .i64 0, .int .i64 0], .int .i64 2]) ∧ Below W.heap.size W w' := by
  have v0 := bV0
  have F := (((((Fr.start W).push (g := W.heap.size) (by simp) [.int .i64 op, .int .i64 rg, .int .i64 ty, .int .i64 n, .int .i64 fl, .slice ap al ac, .slice tp tl tc] 25).push (g := W.heap.size + 1) (by simp) [.int .i64 ak, .int .u64 ab, .int .i64 abk, .int .i64 ao] 35).push (g := W.heap.size + 1 + 1) (by simp) [.int .i64 1, .int .u64 0, .int .i64 0, .int .i64 0] 35).push (g := W.heap.size + 1 + 1 + 1) (by simp) [.int .i64 0, .int .u64 0, .int .i64 0, .int .i64 0] 35)
  have G := Lib.hid F
  clear F
  go_enter Try.func28, Try.ntmps28
  go_wp2_with fail
  go_quiet (fail)
  replace G := Lib.hid (G.out.drewN nq)
  go_wp2_with fail
  exact bodyPost_ret (v := .tuple #[.agg #[.int .i64 0, .int .u64 0, .int .i64 0, .int .i64 0], .int .i64 2]) (by simp [results, Try.results28, go_sem, *]) rfl ⟨rfl, G.out.set4 0 rfl _ _ _ _⟩
theorem rDiv_np_u (op rg ty n fl : Int) (ap : Option Addr) (al ac : Nat) (tp : Option Addr) (tl tc : Nat) (ab abk ao y : Int) (W : World)
    (q5 : (op == 5) = false)
    (q7 : (op == 7) = false)
    (hy : (y == 0) = false) :
    Calls Try.prog 28 #[.agg #[.int .i64 op, .int .i64 rg, .int .i64 ty, .int .i64 n, .int .i64 fl, .slice ap al ac, .slice tp tl tc], .agg #[.int .i64 0, .int .u64 ab, .int .i64 abk, .int .i64 ao], .agg #[.int .i64 1, .int .u64 y, .int .i64 0, .int .i64 0]] W fun e w' => e = .returned (.tuple #[.agg #[.int .i64 0, .int .u64 0, .int .i64 0, .int .i64 0], .int .i64 0]) ∧ Below W.heap.size W w' := by
  have v0 := bV0
  have F := (((((Fr.start W).push (g := W.heap.size) (by simp) [.int .i64 op, .int .i64 rg, .int .i64 ty, .int .i64 n, .int .i64 fl, .slice ap al ac, .slice tp tl tc] 25).push (g := W.heap.size + 1) (by simp) [.int .i64 0, .int .u64 ab, .int .i64 abk, .int .i64 ao] 35).push (g := W.heap.size + 1 + 1) (by simp) [.int .i64 1, .int .u64 y, .int .i64 0, .int .i64 0] 35).push (g := W.heap.size + 1 + 1 + 1) (by simp) [.int .i64 0, .int .u64 0, .int .i64 0, .int .i64 0] 35)
  have G := Lib.hid F
  clear F
  go_enter Try.func28, Try.ntmps28
  go_wp2_with fail
  go_quiet (fail)
  replace G := Lib.hid (G.out.drewN nq)
  go_wp2_with fail
  exact bodyPost_ret (v := .tuple #[.agg #[.int .i64 0, .int .u64 0, .int .i64 0, .int .i64 0], .int .i64 0]) (by simp [results, Try.results28, go_sem, *]) rfl ⟨rfl, G.out.set4 0 rfl _ _ _ _⟩
theorem rDiv_nu_u (op rg ty n fl : Int) (ap : Option Addr) (al ac : Nat) (tp : Option Addr) (tl tc : Nat) (ab abk ao y : Int) (W : World)
    (q5 : (op == 5) = false)
    (q7 : (op == 7) = false)
    (hy : (y == 0) = false)
    (hf : (fl != 0) = true) :
    Calls Try.prog 28 #[.agg #[.int .i64 op, .int .i64 rg, .int .i64 ty, .int .i64 n, .int .i64 fl, .slice ap al ac, .slice tp tl tc], .agg #[.int .i64 3, .int .u64 ab, .int .i64 abk, .int .i64 ao], .agg #[.int .i64 1, .int .u64 y, .int .i64 0, .int .i64 0]] W fun e w' => e = .returned (.tuple #[.agg #[.int .i64 0, .int .u64 0, .int .i64 0, .int .i64 0], .int .i64 0]) ∧ Below W.heap.size W w' := by
  have v0 := bV0
  have F := (((((Fr.start W).push (g := W.heap.size) (by simp) [.int .i64 op, .int .i64 rg, .int .i64 ty, .int .i64 n, .int .i64 fl, .slice ap al ac, .slice tp tl tc] 25).push (g := W.heap.size + 1) (by simp) [.int .i64 3, .int .u64 ab, .int .i64 abk, .int .i64 ao] 35).push (g := W.heap.size + 1 + 1) (by simp) [.int .i64 1, .int .u64 y, .int .i64 0, .int .i64 0] 35).push (g := W.heap.size + 1 + 1 + 1) (by simp) [.int .i64 0, .int .u64 0, .int .i64 0, .int .i64 0] 35)
  have G := Lib.hid F
  clear F
  go_enter Try.func28, Try.ntmps28
  go_wp2_with fail
  go_quiet (fail)
  replace G := Lib.hid (G.out.drewN nq)
  go_wp2_with fail
  exact bodyPost_ret (v := .tuple #[.agg #[.int .i64 0, .int .u64 0, .int .i64 0, .int .i64 0], .int .i64 0]) (by simp [results, Try.results28, go_sem, *]) rfl ⟨rfl, G.out.set4 0 rfl _ _ _ _⟩
theorem rDiv_na_u (op rg ty n fl : Int) (ap : Option Addr) (al ac : Nat) (tp : Option Addr) (tl tc : Nat) (ab abk ao y : Int) (W : World)
    (q5 : (op == 5) = false)
    (q7 : (op == 7) = false)
    (hy : (y == 0) = false)
    (hf : (fl != 0) = false) :
    Calls Try.prog 28 #[.agg #[.int .i64 op, .int .i64 rg, .int .i64 ty, .int .i64 n, .int .i64 fl, .slice ap al ac, .slice tp tl tc], .agg #[.int .i64 3, .int .u64 ab, .int .i64 abk, .int .i64 ao], .agg #[.int .i64 1, .int .u64 y, .int .i64 0, .int .i64 0]] W fun e w' => e = .returned (.tuple #[.agg #[.int .i64 3, .int .u64 0, .int .i64 0, .int .i64 0], .int .i64 0]) ∧ Below W.heap.size W w' := by
  have v0 := bV0
  have F := (((((Fr.start W).push (g := W.heap.size) (by simp) [.int .i64 op, .int .i64 rg, .int .i64 ty, .int .i64 n, .int .i64 fl, .slice ap al ac, .slice tp tl tc] 25).push (g := W.heap.size + 1) (by simp) [.int .i64 3, .int .u64 ab, .int .i64 abk, .int .i64 ao] 35).push (g := W.heap.size + 1 + 1) (by simp) [.int .i64 1, .int .u64 y, .int .i64 0, .int .i64 0] 35).push (g := W.heap.size + 1 + 1 + 1) (by simp) [.int .i64 0, .int .u64 0, .int .i64 0, .int .i64 0] 35)
  have G := Lib.hid F
  clear F
  go_enter Try.func28, Try.ntmps28
  go_wp2_with fail
  go_quiet (fail)
  replace G := Lib.hid (G.out.drewN nq)
  go_wp2_with (first
    | ((with_reducible refine (rAnyV_any _).mono ?_); rintro e w1 ⟨rfl, hb⟩; have F := G.out.later hb; (try clear i0 i1 i2 i3 i4 i5 i6 a0 a1 a2 a3 af b0 b1 b2 b3 bf r0 r1 r2 r3 rf); obtain ⟨i0, i1, i2, i3, i4, i5, i6⟩ := F.c7 3 rfl; obtain ⟨a0, a1, a2, a3, af⟩ := F.c4 2 rfl; obtain ⟨b0, b1, b2, b3, bf⟩ := F.c4 1 rfl; obtain ⟨r0, r1, r2, r3, rf⟩ := F.c4 0 rfl; replace G := Lib.hid F; clear F hb))
  exact bodyPost_ret (v := .tuple #[.agg #[.int .i64 3, .int .u64 0, .int .i64 0, .int .i64 0], .int .i64 0]) (by simp [results, Try.results28, go_sem, *]) rfl ⟨rfl, G.out.set4 0 rfl _ _ _ _⟩
theorem rDiv_nn_u (op rg ty n fl : Int) (ap : Option Addr) (al ac : Nat) (tp : Option Addr) (tl tc : Nat) (x y zk zb zbk zo E : Int) (W : World)
    (q5 : (op == 5) = false)
    (q7 : (op == 7) = false)
    (hy : (y == 0) = false)
    (c5 : ∀ W, Calls Try.prog 50 #[.agg #[.int .i64 op, .int .i64 rg, .int .i64 ty, .int .i64 n, .int .i64 fl, .slice ap al ac, .slice tp tl tc], .int .u64 x, .int .u64 y] W fun e w' => e = .returned (.tuple #[.agg #[.int .i64 zk, .int .u64 zb, .int .i64 zbk, .int .i64 zo], .int .i64 E]) ∧ Below W.heap.size W w') :
    Calls Try.prog 28 #[.agg #[.int .i64 op, .int .i64 rg, .int .i64 ty, .int .i64 n, .int .i64 fl, .slice ap al ac, .slice tp tl tc], .agg #[.int .i64 1, .int .u64 x, .int .i64 0, .int .i64 0], .agg #[.int .i64 1, .int .u64 y, .int .i64 0, .int .i64 0]] W fun e w' => e = .returned (.tuple #[.agg #[.int .i64 zk, .int .u64 zb, .int .i64 zbk, .int .i64 zo], .int .i64 E]) ∧ Below W.heap.size W w' := by
  have v0 := bV0
  have F := (((((Fr.start W).push (g := W.heap.size) (by simp) [.int .i64 op, .int .i64 rg, .int .i64 ty, .int .i64 n, .int .i64 fl, .slice ap al ac, .slice tp tl tc] 25).push (g := W.heap.size + 1) (by simp) [.int .i64 1, .int .u64 x, .int .i64 0, .int .i64 0] 35).push (g := W.heap.size + 1 + 1) (by simp) [.int .i64 1, .int .u64 y, .int .i64 0, .int .i64 0] 35).push (g := W.heap.size + 1 + 1 + 1) (by simp) [.int .i64 0, .int .u64 0, .int .i64 0, .int .i64 0] 35)
  have G := Lib.hid F
  clear F
  go_enter Try.func28, Try.ntmps28
  go_wp2_with fail
  go_quiet (fail)
  replace G := Lib.hid (G.out.drewN nq)
  go_wp2_with (first
    | ((with_reducible refine (c5 _).mono ?_); rintro e w1 ⟨rfl, hb⟩; have F := G.out.later hb; (try clear i0 i1 i2 i3 i4 i5 i6 a0 a1 a2 a3 af b0 b1 b2 b3 bf r0 r1 r2 r3 rf); obtain ⟨i0, i1, i2, i3, i4, i5, i6⟩ := F.c7 3 rfl; obtain ⟨a0, a1, a2, a3, af⟩ := F.c4 2 rfl; obtain ⟨b0, b1, b2, b3, bf⟩ := F.c4 1 rfl; obtain ⟨r0, r1, r2, r3, rf⟩ := F.c4 0 rfl; replace G := Lib.hid F; clear F hb))
  exact bodyPost_ret (v := .tuple #[.agg #[.int .i64 zk, .int .u64 zb, .int .i64 zbk, .int .i64 zo], .int .i64 E]) (by simp [results, Try.results28, go_sem, *]) rfl ⟨rfl, G.out.set4 0 rfl _ _ _ _⟩
end Go.Proofs.Ytpjfkmaceaikbaa
