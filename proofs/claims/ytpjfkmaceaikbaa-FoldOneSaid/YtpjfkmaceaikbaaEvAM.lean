/- Package eval: the small functions. -/
import Derived.Test.YtpjfkmaceaikbaaMg7
namespace Go.Proofs.Ytpjfkmaceaikbaa
open Go.RowKit Go.Maps
set_option linter.unusedVariables false
set_option linter.unusedSimpArgs false
set_option maxRecDepth 100000

theorem isPoison_any (v : Vl) (W : World) : Calls Try.prog 58 #[v.val] W fun e w' => e = .returned (.bool (v.k == 0)) ∧ Below W.heap.size W w' := by
  obtain ⟨k, b, bk, o⟩ := v
  show Calls _ _ #[.agg #[.int .i64 k, .int .u64 b, .int .i64 bk, .int .i64 o]] W fun e w' => e = .returned (.bool (k == 0)) ∧ _
  go_enter Try.func58, Try.ntmps58
  go_wp2_with fail
  go_ret
  exact ⟨rfl, below1 W _⟩
theorem isNumberV_any (v : Vl) (W : World) : Calls Try.prog 61 #[v.val] W fun e w' => e = .returned (.bool (v.k == 1)) ∧ Below W.heap.size W w' := by
  obtain ⟨k, b, bk, o⟩ := v
  show Calls _ _ #[.agg #[.int .i64 k, .int .u64 b, .int .i64 bk, .int .i64 o]] W fun e w' => e = .returned (.bool (k == 1)) ∧ _
  go_enter Try.func61, Try.ntmps61
  go_wp2_with fail
  go_ret
  exact ⟨rfl, below1 W _⟩
theorem isAny_any (v : Vl) (W : World) : Calls Try.prog 60 #[v.val] W fun e w' => e = .returned (.bool (v.k == 3)) ∧ Below W.heap.size W w' := by
  obtain ⟨k, b, bk, o⟩ := v
  show Calls _ _ #[.agg #[.int .i64 k, .int .u64 b, .int .i64 bk, .int .i64 o]] W fun e w' => e = .returned (.bool (k == 3)) ∧ _
  go_enter Try.func60, Try.ntmps60
  go_wp2_with fail
  go_ret
  exact ⟨rfl, below1 W _⟩
theorem numberV_any (b : Int) (W : World) : Calls Try.prog 59 #[.int .u64 b] W fun e w' => e = .returned (.agg #[.int .i64 1, .int .u64 b, .int .i64 0, .int .i64 0]) ∧ Below W.heap.size W w' := by
  have hb := bV2
  go_enter Try.func59, Try.ntmps59
  go_wp2_with fail
  exact bodyPost_ret (v := .agg #[.int .i64 1, .int .u64 b, .int .i64 0, .int .i64 0]) (by simp [results, Try.results59, go_sem]) rfl ⟨rfl, below1 W _⟩
theorem unknown_any (W : World) : Calls Try.prog 62 #[] W fun e w' => e = .returned (.agg #[.int .i64 3, .int .u64 0, .int .i64 0, .int .i64 0]) ∧ Below W.heap.size W w' := by
  have hb := bV1
  go_enter Try.func62, Try.ntmps62
  go_wp2_with fail
  exact bodyPost_ret (v := .agg #[.int .i64 3, .int .u64 0, .int .i64 0, .int .i64 0]) (by simp [results, Try.results62, go_sem]) rfl ⟨rfl, below1 W _⟩
theorem truth_any (b : Bool) (W : World) : Calls Try.prog 65 #[.bool b] W fun e w' => e = .returned (.agg #[.int .i64 1, .int .u64 (if b = true then 1 else 0), .int .i64 0, .int .i64 0]) ∧ Below W.heap.size W w' := by
  have c := fun b W => numberV_any b W
  have F := (Fr.start W).push rfl [.int .i64 0, .int .u64 0, .int .i64 0, .int .i64 0] 35
  have G := Lib.hid F
  clear F
  cases b with
  | true =>
    show Calls _ _ _ W fun e w' => e = .returned (.agg #[.int .i64 1, .int .u64 1, .int .i64 0, .int .i64 0]) ∧ _
    go_enter Try.func65, Try.ntmps65
    go_wp2_with ((with_reducible refine (c _ _).mono ?_); rintro e w1 ⟨rfl, hb⟩; have F := G.out.later hb; obtain ⟨r0, r1, r2, r3, rf⟩ := F.c4 0 rfl; replace G := Lib.hid F; clear F hb)
    exact bodyPost_ret (v := .agg #[.int .i64 1, .int .u64 1, .int .i64 0, .int .i64 0]) (by simp [results, Try.results65, go_sem, *]) rfl ⟨rfl, G.out.set4 0 rfl _ _ _ _⟩
  | false =>
    show Calls _ _ _ W fun e w' => e = .returned (.agg #[.int .i64 1, .int .u64 0, .int .i64 0, .int .i64 0]) ∧ _
    go_enter Try.func65, Try.ntmps65
    go_wp2_with ((with_reducible refine (c _ _).mono ?_); rintro e w1 ⟨rfl, hb⟩; have F := G.out.later hb; obtain ⟨r0, r1, r2, r3, rf⟩ := F.c4 0 rfl; replace G := Lib.hid F; clear F hb)
    exact bodyPost_ret (v := .agg #[.int .i64 1, .int .u64 0, .int .i64 0, .int .i64 0]) (by simp [results, Try.results65, go_sem, *]) rfl ⟨rfl, G.out.set4 0 rfl _ _ _ _⟩
theorem isFrom_any (a b c : Int) (W : World) : Calls Try.prog 55 #[.int .i64 a, .int .i64 b, .int .i64 c] W fun e w' => e = .returned (.bool (decide (a ≤ c) && decide (c ≤ b))) ∧ W = w' := by
  by_cases h1 : a ≤ c <;> by_cases h2 : c ≤ b
  all_goals
    go_enter Try.func55, Try.ntmps55
    go_wp2
    go_ret
    exact ⟨by simp [h1, h2], rfl⟩
theorem count_any (op : Int) (W : World) : Calls Try.prog 17 #[.int .i64 op] W fun e w' => e = .returned (.int .i64 (cntE op)) ∧ W = w' := by
  go_enter Try.func17, Try.ntmps17
  go_wp2
  all_goals
    go_ret
    refine ⟨ret_int ?_, rfl⟩
    show _ = cntE op
    simp_all [cntE]
theorem wanted_any (d : Ins) (i : Int) (W : World) : Calls Try.prog 19 #[d.val, .int .i64 i] W fun e w' => e = .returned (.int .i64 (wntE d.op d.ty d.n i)) ∧ Below W.heap.size W w' := by
  obtain ⟨op, rg, ty, n, fl, ap, al, ac, tp, tl, tc, ars⟩ := d
  show Calls _ _ #[.agg #[.int .i64 op, .int .i64 rg, .int .i64 ty, .int .i64 n, .int .i64 fl, .slice ap al ac, .slice tp tl tc], .int .i64 i] W fun e w' => e = .returned (.int .i64 (wntE op ty n i)) ∧ _
  go_enter Try.func19, Try.ntmps19
  go_wp2_with fail
  all_goals
    go_ret
    refine ⟨ret_int ?_, below1 W _⟩
    show _ = wntE op ty n i
    simp_all [wntE]
theorem unflagged_any (d : Ins) (W : World) : Calls Try.prog 64 #[d.val] W fun e w' => e = .returned (unfE d.fl).vl.val ∧ Below W.heap.size W w' := by
  obtain ⟨op, rg, ty, n, fl, ap, al, ac, tp, tl, tc, ars⟩ := d
  have c := fun W => unknown_any W
  have b0 := bV0
  have F := ((Fr.start W).push rfl [.int .i64 op, .int .i64 rg, .int .i64 ty, .int .i64 n, .int .i64 fl, .slice ap al ac, .slice tp tl tc] 25).push (g := W.heap.size + 1) (by simp) [.int .i64 0, .int .u64 0, .int .i64 0, .int .i64 0] 35
  have G := Lib.hid F
  clear F
  by_cases h : fl = 0
  · have h' : (fl != 0) = false := by simp [h]
    have e : unfE fl = .any := by unfold unfE; rw [if_pos h]
    show Calls _ _ #[.agg #[.int .i64 op, .int .i64 rg, .int .i64 ty, .int .i64 n, .int .i64 fl, .slice ap al ac, .slice tp tl tc]] W fun e w' => e = .returned (unfE fl).vl.val ∧ _
    rw [e]
    clear e h
    go_enter Try.func64, Try.ntmps64
    go_wp2_with ((with_reducible refine (c _).mono ?_); rintro e w1 ⟨rfl, hb⟩; have F := G.out.later hb; obtain ⟨r0, r1, r2, r3, rf⟩ := F.c4 0 rfl; replace G := Lib.hid F; clear F hb)
    exact bodyPost_ret (v := .agg #[.int .i64 3, .int .u64 0, .int .i64 0, .int .i64 0]) (by simp [results, Try.results64, go_sem, *]) rfl ⟨rfl, G.out.set4 0 rfl _ _ _ _⟩
  · have h' : (fl != 0) = true := by simp [h]
    have e : unfE fl = .poi := by unfold unfE; rw [if_neg h]
    show Calls _ _ #[.agg #[.int .i64 op, .int .i64 rg, .int .i64 ty, .int .i64 n, .int .i64 fl, .slice ap al ac, .slice tp tl tc]] W fun e w' => e = .returned (unfE fl).vl.val ∧ _
    rw [e]
    clear e h
    go_enter Try.func64, Try.ntmps64
    go_wp2_with fail
    exact bodyPost_ret (v := .agg #[.int .i64 0, .int .u64 0, .int .i64 0, .int .i64 0]) (by simp [results, Try.results64, go_sem]) rfl ⟨rfl, below2 W _ _⟩
end Go.Proofs.Ytpjfkmaceaikbaa
