/- The document's eval (latheref10): number, truth, Any, applied. -/
import Derived.Test.YtpjfkmaceaikbaaReFM
import Derived.Deep.QuietTactic
import Derived.BigQuiet
namespace Go.Proofs.Ytpjfkmaceaikbaa
open Go.RowKit Go.Maps
set_option linter.unusedVariables false
set_option linter.unusedSimpArgs false
set_option maxRecDepth 100000
set_option maxHeartbeats 1000000

theorem rNumber_any (b : Int) (W : World) : Calls Try.prog 33 #[.int .u64 b] W fun e w' => e = .returned (.agg #[.int .i64 1, .int .u64 b, .int .i64 0, .int .i64 0]) ∧ Below W.heap.size W w' := by
  have hb := bV2
  go_enter Try.func33, Try.ntmps33
  go_wp2_with fail
  exact bodyPost_ret (v := .agg #[.int .i64 1, .int .u64 b, .int .i64 0, .int .i64 0]) (by simp [results, Try.results33, go_sem]) rfl ⟨rfl, below1 W _⟩
theorem rAnyV_any (W : World) : Calls Try.prog 31 #[] W fun e w' => e = .returned (.agg #[.int .i64 3, .int .u64 0, .int .i64 0, .int .i64 0]) ∧ Below W.heap.size W w' := by
  have hb := bV1
  go_enter Try.func31, Try.ntmps31
  go_wp2_with fail
  exact bodyPost_ret (v := .agg #[.int .i64 3, .int .u64 0, .int .i64 0, .int .i64 0]) (by simp [results, Try.results31, go_sem]) rfl ⟨rfl, below1 W _⟩
theorem rTruth_true (W : World) : Calls Try.prog 54 #[.bool true] W fun e w' => e = .returned (.agg #[.int .i64 1, .int .u64 1, .int .i64 0, .int .i64 0]) ∧ Below W.heap.size W w' := by
  have c := fun b W => rNumber_any b W
  have F := ((Fr.start W).push (g := W.heap.size) (by simp) [.int .i64 0, .int .u64 0, .int .i64 0, .int .i64 0] 35)
  have G := Lib.hid F
  clear F
  go_enter Try.func54, Try.ntmps54
  go_wp2_with ((with_reducible refine (c _ _).mono ?_); rintro e w1 ⟨rfl, hb⟩; have F := G.out.later hb; (try clear r0 r1 r2 r3 rf); obtain ⟨r0, r1, r2, r3, rf⟩ := F.c4 0 rfl; replace G := Lib.hid F; clear F hb)
  exact bodyPost_ret (v := .agg #[.int .i64 1, .int .u64 1, .int .i64 0, .int .i64 0]) (by simp [results, Try.results54, go_sem, *]) rfl ⟨rfl, G.out.set4 0 rfl _ _ _ _⟩
theorem rTruth_false (W : World) : Calls Try.prog 54 #[.bool false] W fun e w' => e = .returned (.agg #[.int .i64 1, .int .u64 0, .int .i64 0, .int .i64 0]) ∧ Below W.heap.size W w' := by
  have c := fun b W => rNumber_any b W
  have F := ((Fr.start W).push (g := W.heap.size) (by simp) [.int .i64 0, .int .u64 0, .int .i64 0, .int .i64 0] 35)
  have G := Lib.hid F
  clear F
  go_enter Try.func54, Try.ntmps54
  go_wp2_with ((with_reducible refine (c _ _).mono ?_); rintro e w1 ⟨rfl, hb⟩; have F := G.out.later hb; (try clear r0 r1 r2 r3 rf); obtain ⟨r0, r1, r2, r3, rf⟩ := F.c4 0 rfl; replace G := Lib.hid F; clear F hb)
  exact bodyPost_ret (v := .agg #[.int .i64 1, .int .u64 0, .int .i64 0, .int .i64 0]) (by simp [results, Try.results54, go_sem, *]) rfl ⟨rfl, G.out.set4 0 rfl _ _ _ _⟩
theorem rApplied_v (op rg ty n fl : Int) (ap : Option Addr) (al ac : Nat) (tp : Option Addr) (tl tc : Nat) (x y R : Int) (W : World)
    (c1 : ∀ W, Calls Try.prog 67 #[.int .i64 op, .int .i64 ty, .int .i64 fl, .int .u64 x, .int .u64 y] W fun e w' => e = .returned (.tuple #[.int .u64 R, .int .i64 0]) ∧ Below W.heap.size W w') :
    Calls Try.prog 50 #[.agg #[.int .i64 op, .int .i64 rg, .int .i64 ty, .int .i64 n, .int .i64 fl, .slice ap al ac, .slice tp tl tc], .int .u64 x, .int .u64 y] W fun e w' => e = .returned (.tuple #[.agg #[.int .i64 1, .int .u64 R, .int .i64 0, .int .i64 0], .int .i64 0]) ∧ Below W.heap.size W w' := by
  have c2 := fun b W => rNumber_any b W
  have v0 := bV0
  have F := (((Fr.start W).push (g := W.heap.size) (by simp) [.int .i64 op, .int .i64 rg, .int .i64 ty, .int .i64 n, .int .i64 fl, .slice ap al ac, .slice tp tl tc] 25).push (g := W.heap.size + 1) (by simp) [.int .i64 0, .int .u64 0, .int .i64 0, .int .i64 0] 35)
  have G := Lib.hid F
  clear F
  go_enter Try.func50, Try.ntmps50
  go_wp2_with (first
    | ((with_reducible refine (c1 _).mono ?_); rintro e w1 ⟨rfl, hb⟩; have F := G.out.later hb; (try clear i0 i1 i2 i3 i4 i5 i6 r0 r1 r2 r3 rf); obtain ⟨i0, i1, i2, i3, i4, i5, i6⟩ := F.c7 1 rfl; obtain ⟨r0, r1, r2, r3, rf⟩ := F.c4 0 rfl; replace G := Lib.hid F; clear F hb)
    | ((with_reducible refine (c2 _ _).mono ?_); rintro e w1 ⟨rfl, hb⟩; have F := G.out.later hb; (try clear i0 i1 i2 i3 i4 i5 i6 r0 r1 r2 r3 rf); obtain ⟨i0, i1, i2, i3, i4, i5, i6⟩ := F.c7 1 rfl; obtain ⟨r0, r1, r2, r3, rf⟩ := F.c4 0 rfl; replace G := Lib.hid F; clear F hb))
  exact bodyPost_ret (v := .tuple #[.agg #[.int .i64 1, .int .u64 R, .int .i64 0, .int .i64 0], .int .i64 0]) (by simp [results, Try.results50, go_sem, *]) rfl ⟨rfl, G.out.set4 0 rfl _ _ _ _⟩
theorem rApplied_p (op rg ty n fl : Int) (ap : Option Addr) (al ac : Nat) (tp : Option Addr) (tl tc : Nat) (x y R : Int) (W : World)
    (c1 : ∀ W, Calls Try.prog 67 #[.int .i64 op, .int .i64 ty, .int .i64 fl, .int .u64 x, .int .u64 y] W fun e w' => e = .returned (.tuple #[.int .u64 R, .int .i64 1]) ∧ Below W.heap.size W w') :
    Calls Try.prog 50 #[.agg #[.int .i64 op, .int .i64 rg, .int .i64 ty, .int .i64 n, .int .i64 fl, .slice ap al ac, .slice tp tl tc], .int .u64 x, .int .u64 y] W fun e w' => e = .returned (.tuple #[.agg #[.int .i64 0, .int .u64 0, .int .i64 0, .int .i64 0], .int .i64 0]) ∧ Below W.heap.size W w' := by
  have c2 := fun b W => rNumber_any b W
  have v0 := bV0
  have F := (((Fr.start W).push (g := W.heap.size) (by simp) [.int .i64 op, .int .i64 rg, .int .i64 ty, .int .i64 n, .int .i64 fl, .slice ap al ac, .slice tp tl tc] 25).push (g := W.heap.size + 1) (by simp) [.int .i64 0, .int .u64 0, .int .i64 0, .int .i64 0] 35)
  have G := Lib.hid F
  clear F
  go_enter Try.func50, Try.ntmps50
  go_wp2_with (first
    | ((with_reducible refine (c1 _).mono ?_); rintro e w1 ⟨rfl, hb⟩; have F := G.out.later hb; (try clear i0 i1 i2 i3 i4 i5 i6 r0 r1 r2 r3 rf); obtain ⟨i0, i1, i2, i3, i4, i5, i6⟩ := F.c7 1 rfl; obtain ⟨r0, r1, r2, r3, rf⟩ := F.c4 0 rfl; replace G := Lib.hid F; clear F hb)
    | ((with_reducible refine (c2 _ _).mono ?_); rintro e w1 ⟨rfl, hb⟩; have F := G.out.later hb; (try clear i0 i1 i2 i3 i4 i5 i6 r0 r1 r2 r3 rf); obtain ⟨i0, i1, i2, i3, i4, i5, i6⟩ := F.c7 1 rfl; obtain ⟨r0, r1, r2, r3, rf⟩ := F.c4 0 rfl; replace G := Lib.hid F; clear F hb))
  exact bodyPost_ret (v := .tuple #[.agg #[.int .i64 0, .int .u64 0, .int .i64 0, .int .i64 0], .int .i64 0]) (by simp [results, Try.results50, go_sem, *]) rfl ⟨rfl, G.out.set4 0 rfl _ _ _ _⟩
theorem rApplied_d (op rg ty n fl : Int) (ap : Option Addr) (al ac : Nat) (tp : Option Addr) (tl tc : Nat) (x y R : Int) (W : World)
    (c1 : ∀ W, Calls Try.prog 67 #[.int .i64 op, .int .i64 ty, .int .i64 fl, .int .u64 x, .int .u64 y] W fun e w' => e = .returned (.tuple #[.int .u64 R, .int .i64 2]) ∧ Below W.heap.size W w') :
    Calls Try.prog 50 #[.agg #[.int .i64 op, .int .i64 rg, .int .i64 ty, .int .i64 n, .int .i64 fl, .slice ap al ac, .slice tp tl tc], .int .u64 x, .int .u64 y] W fun e w' => e = .returned (.tuple #[.agg #[.int .i64 0, .int .u64 0, .int .i64 0, .int .i64 0], .int .i64 2]) ∧ Below W.heap.size W w' := by
  have c2 := fun b W => rNumber_any b W
  have v0 := bV0
  have F := (((Fr.start W).push (g := W.heap.size) (by simp) [.int .i64 op, .int .i64 rg, .int .i64 ty, .int .i64 n, .int .i64 fl, .slice ap al ac, .slice tp tl tc] 25).push (g := W.heap.size + 1) (by simp) [.int .i64 0, .int .u64 0, .int .i64 0, .int .i64 0] 35)
  have G := Lib.hid F
  clear F
  go_enter Try.func50, Try.ntmps50
  go_wp2_with (first
    | ((with_reducible refine (c1 _).mono ?_); rintro e w1 ⟨rfl, hb⟩; have F := G.out.later hb; (try clear i0 i1 i2 i3 i4 i5 i6 r0 r1 r2 r3 rf); obtain ⟨i0, i1, i2, i3, i4, i5, i6⟩ := F.c7 1 rfl; obtain ⟨r0, r1, r2, r3, rf⟩ := F.c4 0 rfl; replace G := Lib.hid F; clear F hb)
    | ((with_reducible refine (c2 _ _).mono ?_); rintro e w1 ⟨rfl, hb⟩; have F := G.out.later hb; (try clear i0 i1 i2 i3 i4 i5 i6 r0 r1 r2 r3 rf); obtain ⟨i0, i1, i2, i3, i4, i5, i6⟩ := F.c7 1 rfl; obtain ⟨r0, r1, r2, r3, rf⟩ := F.c4 0 rfl; replace G := Lib.hid F; clear F hb))
  exact bodyPost_ret (v := .tuple #[.agg #[.int .i64 0, .int .u64 0, .int .i64 0, .int .i64 0], .int .i64 2]) (by simp [results, Try.results50, go_sem, *]) rfl ⟨rfl, G.out.set4 0 rfl _ _ _ _⟩
end Go.Proofs.Ytpjfkmaceaikbaa
