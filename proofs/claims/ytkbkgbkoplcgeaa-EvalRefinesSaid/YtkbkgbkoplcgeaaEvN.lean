/- Package lathelaw10: better, types. -/
import Derived.Test.YtkbkgbkoplcgeaaEvL
namespace Go.Proofs.Ytkbkgbkoplcgeaa
open Go.RowKit Go.Maps
set_option linter.unusedVariables false
set_option linter.unusedSimpArgs false
set_option maxRecDepth 100000
set_option maxHeartbeats 1000000


theorem better_0 (ab abk ao bk bb bbk bo : Int)  (W : World) : Calls Try.prog 38 #[.agg #[.int .i64 0, .int .u64 ab, .int .i64 abk, .int .i64 ao], .agg #[.int .i64 bk, .int .u64 bb, .int .i64 bbk, .int .i64 bo]] W fun e w' => e = .returned (.bool true) ∧ Below W.heap.size W w' := by
  go_enter Try.func38, Try.ntmps38
  go_wp2_with fail
  go_ret
  exact ⟨rfl, below2 W _ _⟩
theorem better_3 (ab abk ao bk bb bbk bo : Int) (h : (bk != 0) = true) (W : World) : Calls Try.prog 38 #[.agg #[.int .i64 3, .int .u64 ab, .int .i64 abk, .int .i64 ao], .agg #[.int .i64 bk, .int .u64 bb, .int .i64 bbk, .int .i64 bo]] W fun e w' => e = .returned (.bool true) ∧ Below W.heap.size W w' := by
  go_enter Try.func38, Try.ntmps38
  go_wp2_with fail
  go_ret
  exact ⟨rfl, below2 W _ _⟩
theorem better_3p (ab abk ao bb bbk bo : Int)  (W : World) : Calls Try.prog 38 #[.agg #[.int .i64 3, .int .u64 ab, .int .i64 abk, .int .i64 ao], .agg #[.int .i64 0, .int .u64 bb, .int .i64 bbk, .int .i64 bo]] W fun e w' => e = .returned (.bool false) ∧ Below W.heap.size W w' := by
  go_enter Try.func38, Try.ntmps38
  go_wp2_with fail
  go_ret
  exact ⟨rfl, below2 W _ _⟩
theorem better_e (ak ab abk ao : Int) (h0 : (ak == 0) = false) (h3 : (ak == 3) = false) (W : World) : Calls Try.prog 38 #[.agg #[.int .i64 ak, .int .u64 ab, .int .i64 abk, .int .i64 ao], .agg #[.int .i64 ak, .int .u64 ab, .int .i64 abk, .int .i64 ao]] W fun e w' => e = .returned (.bool true) ∧ Below W.heap.size W w' := by
  go_enter Try.func38, Try.ntmps38
  go_wp2_with fail
  go_ret
  exact ⟨rfl, below2 W _ _⟩
theorem better_k (ak ab abk ao bk bb bbk bo : Int) (h0 : (ak == 0) = false) (h3 : (ak == 3) = false) (hk : (ak == bk) = false) (W : World) : Calls Try.prog 38 #[.agg #[.int .i64 ak, .int .u64 ab, .int .i64 abk, .int .i64 ao], .agg #[.int .i64 bk, .int .u64 bb, .int .i64 bbk, .int .i64 bo]] W fun e w' => e = .returned (.bool false) ∧ Below W.heap.size W w' := by
  go_enter Try.func38, Try.ntmps38
  go_wp2_with fail
  go_ret
  exact ⟨rfl, below2 W _ _⟩
theorem better_n (x y : Int) (hk : (x == y) = false) (W : World) : Calls Try.prog 38 #[.agg #[.int .i64 1, .int .u64 x, .int .i64 0, .int .i64 0], .agg #[.int .i64 1, .int .u64 y, .int .i64 0, .int .i64 0]] W fun e w' => e = .returned (.bool false) ∧ Below W.heap.size W w' := by
  go_enter Try.func38, Try.ntmps38
  go_wp2_with fail
  go_ret
  exact ⟨rfl, below2 W _ _⟩
theorem better_d1 (x u y v : Int) (hk : (x == y) = false) (W : World) : Calls Try.prog 38 #[.agg #[.int .i64 2, .int .u64 0, .int .i64 x, .int .i64 u], .agg #[.int .i64 2, .int .u64 0, .int .i64 y, .int .i64 v]] W fun e w' => e = .returned (.bool false) ∧ Below W.heap.size W w' := by
  go_enter Try.func38, Try.ntmps38
  go_wp2_with fail
  go_ret
  exact ⟨rfl, below2 W _ _⟩
theorem better_d2 (x u v : Int) (hk : (u == v) = false) (W : World) : Calls Try.prog 38 #[.agg #[.int .i64 2, .int .u64 0, .int .i64 x, .int .i64 u], .agg #[.int .i64 2, .int .u64 0, .int .i64 x, .int .i64 v]] W fun e w' => e = .returned (.bool false) ∧ Below W.heap.size W w' := by
  go_enter Try.func38, Try.ntmps38
  go_wp2_with fail
  go_ret
  exact ⟨rfl, below2 W _ _⟩
theorem better_any (a b : EV) (W : World) : Calls Try.prog 38 #[a.vl.val, b.vl.val] W fun e w' => e = .returned (.bool (betE a b)) ∧ Below W.heap.size W w' := by
  cases a with
  | poi =>
    exact better_0 0 0 0 b.vl.k b.vl.b b.vl.bk b.vl.o W
  | num x1 =>
    cases b with
    | poi => exact better_k 1 x1 0 0 0 0 0 0 rfl rfl rfl W
    | num x2 => 
      by_cases h : x1 = x2
      · subst h; rw [betE_refl]; exact better_e 1 x1 0 0 rfl rfl W
      · rw [show betE (.num x1) (.num x2) = false by simp [betE, eqE, h]]; exact better_n x1 x2 (ne' h) W
    | adr p2 q2 => exact better_k 1 x1 0 0 2 0 p2 q2 rfl rfl rfl W
    | any => exact better_k 1 x1 0 0 3 0 0 0 rfl rfl rfl W
  | adr p1 q1 =>
    cases b with
    | poi => exact better_k 2 0 p1 q1 0 0 0 0 rfl rfl rfl W
    | num x2 => exact better_k 2 0 p1 q1 1 x2 0 0 rfl rfl rfl W
    | adr p2 q2 => 
      by_cases h : p1 = p2
      · subst h
        by_cases h2 : q1 = q2
        · subst h2; rw [betE_refl]; exact better_e 2 0 p1 q1 rfl rfl W
        · rw [show betE (.adr p1 q1) (.adr p1 q2) = false by simp [betE, eqE, h2]]; exact better_d2 p1 q1 q2 (ne' h2) W
      · rw [show betE (.adr p1 q1) (.adr p2 q2) = false by simp [betE, eqE, h]]; exact better_d1 p1 q1 p2 q2 (ne' h) W
    | any => exact better_k 2 0 p1 q1 3 0 0 0 rfl rfl rfl W
  | any =>
    cases b with
    | poi => exact better_3p 0 0 0 0 0 0 W
    | num x2 => exact better_3 0 0 0 1 x2 0 0 rfl W
    | adr p2 q2 => exact better_3 0 0 0 2 0 p2 q2 rfl W
    | any => exact better_3 0 0 0 3 0 0 0 rfl W
def typsE (op ty n : Int) : List Int := if op = 20 ∨ op = 21 ∨ op = 22 then [n] else if op = 23 then [1, ty, ty] else if op = 29 then [65, 64] else [ty, ty]
theorem types_any (d : Ins) (W : World) : Calls Try.prog 36 #[d.val] W fun e w' => ∃ g c, e = .returned (.slice (some ⟨g, 0, none⟩) (typsE d.op d.ty d.n).length c) ∧ Box g ((typsE d.op d.ty d.n).flatMap intC) w' ∧ W.heap.size ≤ g ∧ Below W.heap.size W w' := by
  obtain ⟨op, rg, ty, n, fl, ap, al, ac, tp, tl, tc, ars⟩ := d
  show Calls _ _ #[.agg #[.int .i64 op, .int .i64 rg, .int .i64 ty, .int .i64 n, .int .i64 fl, .slice ap al ac, .slice tp tl tc]] W fun e w' => ∃ g c, e = .returned (.slice (some ⟨g, 0, none⟩) (typsE op ty n).length c) ∧ Box g ((typsE op ty n).flatMap intC) w' ∧ W.heap.size ≤ g ∧ _
  have P := Lib.hid (fun o => below2 W (.cells #[.int .i64 op, .int .i64 rg, .int .i64 ty, .int .i64 n, .int .i64 fl, .slice ap al ac, .slice tp tl tc] 62) o)
  unfold typsE
  have hz := Lib.hid (Nat.le_succ W.heap.size)
  by_cases h1 : op = 20 ∨ op = 21 ∨ op = 22
  · rw [if_pos h1]
    rcases h1 with rfl | rfl | rfl
    all_goals
      go_enter Try.func36, Try.ntmps36
      go_wp2_with fail
      go_ret
      exact ⟨_, _, rfl, Box.new _ (by simp) (([n] : List Int).flatMap intC) _, hz.out, P.out _⟩
  · rw [if_neg h1]
    have q1 : (op == 20) = false := ne' (by omega)
    have q2 : (op == 21) = false := ne' (by omega)
    have q3 : (op == 22) = false := ne' (by omega)
    clear h1
    by_cases h2 : op = 23
    · rw [if_pos h2]
      have q4 : (op == 23) = true := by simpa using h2
      clear h2
      go_enter Try.func36, Try.ntmps36
      go_wp2_with fail
      go_ret
      exact ⟨_, _, rfl, Box.new _ (by simp) (([1, ty, ty] : List Int).flatMap intC) _, hz.out, P.out _⟩
    · rw [if_neg h2]
      have q4 : (op == 23) = false := ne' h2
      clear h2
      by_cases h3 : op = 29
      · rw [if_pos h3]
        have q5 : (op == 29) = true := by simpa using h3
        clear h3
        go_enter Try.func36, Try.ntmps36
        go_wp2_with fail
        go_ret
        exact ⟨_, _, rfl, Box.new _ (by simp) (([65, 64] : List Int).flatMap intC) _, hz.out, P.out _⟩
      · rw [if_neg h3]
        have q5 : (op == 29) = false := ne' h3
        clear h3
        go_enter Try.func36, Try.ntmps36
        go_wp2_with fail
        go_ret
        exact ⟨_, _, rfl, Box.new _ (by simp) (([ty, ty] : List Int).flatMap intC) _, hz.out, P.out _⟩
end Go.Proofs.Ytkbkgbkoplcgeaa
