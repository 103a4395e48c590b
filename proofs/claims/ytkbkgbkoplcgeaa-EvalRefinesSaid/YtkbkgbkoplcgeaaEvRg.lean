/- EvalRefines: where it ends at once; what it wants of plain values. -/
import Derived.Test.YtkbkgbkoplcgeaaEvN
namespace Go.Proofs.Ytkbkgbkoplcgeaa
open Go.RowKit Go.Maps
set_option linter.unusedVariables false
set_option linter.unusedSimpArgs false
set_option maxRecDepth 100000
set_option maxHeartbeats 1000000


theorem refines_g (op rg ty n fl : Int) (ap : Option Addr) (al ac : Nat) (tp : Option Addr) (tl tc : Nat) (p q : Option Addr) (c c' l l' : Nat) (W : World) (hg : 1000 < (l : Int) ∨ ¬ 1000 < (l : Int) ∧ (l' : Int) < (l : Int)) :
    Calls Try.prog 9 #[.agg #[.int .i64 op, .int .i64 rg, .int .i64 ty, .int .i64 n, .int .i64 fl, .slice ap al ac, .slice tp tl tc], .slice p l c, .slice q l' c'] W fun e w' => e = .returned (.bool true) ∧ Below W.heap.size W w' := by
  have cl := fun W => livesE_any W
  have G0 := Lib.hid ((Fr.start W).push (g := W.heap.size) rfl [.int .i64 op, .int .i64 rg, .int .i64 ty, .int .i64 n, .int .i64 fl, .slice ap al ac, .slice tp tl tc] 62)
  rcases hg with n1 | ⟨n1, n2⟩
  all_goals
    go_enter Try.func9, Try.ntmps9
    go_wp2_with (first
      | ((with_reducible refine (cl _).mono ?_); rintro e w1 ⟨rfl, hb⟩; have G1 := Lib.hid (G0.out.later hb); clear hb))
    go_ret
    exact ⟨rfl, G1.out.1⟩
theorem refines_3 (op rg ty n fl : Int) (ap : Option Addr) (al ac : Nat) (tp : Option Addr) (tl tc : Nat) (p q : Option Addr) (c c' l l' : Nat) (W : World) (n1 : ¬ 1000 < (l : Int)) (n2 : ¬ (l' : Int) < (l : Int))
    (c1 : ∀ w, Below W.heap.size W w → Calls Try.prog 35 #[.agg #[.int .i64 op, .int .i64 rg, .int .i64 ty, .int .i64 n, .int .i64 fl, .slice ap al ac, .slice tp tl tc], .slice p l c] w fun e w' => e = .returned (.tuple #[.agg #[.int .i64 0, .int .u64 0, .int .i64 0, .int .i64 0], .int .i64 3]) ∧ Below w.heap.size w w') :
    Calls Try.prog 9 #[.agg #[.int .i64 op, .int .i64 rg, .int .i64 ty, .int .i64 n, .int .i64 fl, .slice ap al ac, .slice tp tl tc], .slice p l c, .slice q l' c'] W fun e w' => e = .returned (.bool true) ∧ Below W.heap.size W w' := by
  have cl := fun W => livesE_any W
  have b0 := bV0
  have G0 := Lib.hid ((Fr.start W).push (g := W.heap.size) rfl [.int .i64 op, .int .i64 rg, .int .i64 ty, .int .i64 n, .int .i64 fl, .slice ap al ac, .slice tp tl tc] 62)
  go_enter Try.func9, Try.ntmps9
  go_wp2_with (first
    | ((with_reducible refine (cl _).mono ?_); rintro e w1 ⟨rfl, hb⟩; have F := G0.out.later hb; obtain ⟨i0, i1, i2, i3, i4, i5, i6⟩ := F.c7 0 rfl; have iz := (F.at 0 rfl).2.1; have d1 := c1 _ F.1; have G1 := Lib.hid F; clear F hb)
    | ((with_reducible refine d1.mono ?_); rintro e w2 ⟨rfl, hb⟩; have F := G1.out.later hb; have G2 := Lib.hid F; clear F hb))
  go_ret
  exact ⟨rfl, (G2.out.alloc _).1⟩
end Go.Proofs.Ytkbkgbkoplcgeaa
