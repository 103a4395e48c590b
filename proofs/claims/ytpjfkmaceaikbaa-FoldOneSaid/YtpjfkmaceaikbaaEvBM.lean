/- Package eval: hasType, hasForm; bits.Apply at whatever such arguments. -/
import Derived.Test.YtpjfkmaceaikbaaEvAM
import Derived.Test.YtpjfkmaceaikbaaMg7
namespace Go.Proofs.Ytpjfkmaceaikbaa
open Go.RowKit Go.Maps
set_option linter.unusedVariables false
set_option linter.unusedSimpArgs false
set_option maxRecDepth 100000
set_option maxHeartbeats 1000000


theorem Apply_all (op w fl a b : Int) (o1 : 1 ≤ op) (o2 : op ≤ 19) (h1 : 1 ≤ w) (h2 : w ≤ 64) (f0 : -9223372036854775808 ≤ fl) (f1 : fl ≤ 9223372036854775807) (hf : bits .andNot .i64 fl (flg op) = 0)
    (ha : 0 ≤ a) (ha' : a ≤ 18446744073709551615) (hb : 0 ≤ b) (hb' : b ≤ 18446744073709551615) :
    Gives 69 #[.int .i64 op, .int .i64 w, .int .i64 fl, .int .u64 a, .int .u64 b] (aplT w op fl a b) := by
  have cases19 : op = 1 ∨ op = 2 ∨ op = 3 ∨ op = 4 ∨ op = 5 ∨ op = 6 ∨ op = 7 ∨ op = 8 ∨ op = 9 ∨ op = 10 ∨ op = 11 ∨ op = 12 ∨ op = 13 ∨ op = 14 ∨ op = 15 ∨ op = 16 ∨ op = 17 ∨ op = 18 ∨ op = 19 := by omega
  rcases cases19 with rfl | rfl | rfl | rfl | rfl | rfl | rfl | rfl | rfl | rfl | rfl | rfl | rfl | rfl | rfl | rfl | rfl | rfl | rfl
  · exact Apply_1 w fl a b h1 h2 ha ha' hb hb' (flags_3 f0 f1 hf)
  · exact Apply_2 w fl a b h1 h2 ha ha' hb hb' (flags_3 f0 f1 hf)
  · exact Apply_3 w fl a b h1 h2 ha ha' hb hb' (flags_3 f0 f1 hf)
  · exact Apply_4 w fl a b h1 h2 ha ha' hb hb' (flags_4 f0 f1 hf)
  · exact Apply_5 w fl a b h1 h2 ha ha' hb hb' (flags_4 f0 f1 hf)
  · exact Apply_6 w fl a b h1 h2 ha ha' hb hb' (flags_0 f0 f1 hf)
  · exact Apply_7 w fl a b h1 h2 ha ha' hb hb' (flags_0 f0 f1 hf)
  · exact Apply_8 w fl a b h1 h2 ha ha' hb hb' (flags_0 f0 f1 hf)
  · exact Apply_9 w fl a b h1 h2 ha ha' hb hb' (flags_0 f0 f1 hf)
  · exact Apply_10 w fl a b h1 h2 ha ha' hb hb' (flags_0 f0 f1 hf)
  · exact Apply_11 w fl a b h1 h2 ha ha' hb hb' (flags_3 f0 f1 hf)
  · exact Apply_12 w fl a b h1 h2 ha ha' hb hb' (flags_4 f0 f1 hf)
  · exact Apply_13 w fl a b h1 h2 ha ha' hb hb' (flags_4 f0 f1 hf)
  · exact Apply_14 w fl a b h1 h2 ha ha' hb hb' (flags_0 f0 f1 hf)
  · exact Apply_15 w fl a b h1 h2 ha ha' hb hb' (flags_0 f0 f1 hf)
  · exact Apply_16 w fl a b h1 h2 ha ha' hb hb' (flags_0 f0 f1 hf)
  · exact Apply_17 w fl a b h1 h2 ha ha' hb hb' (flags_0 f0 f1 hf)
  · exact Apply_18 w fl a b h1 h2 ha ha' hb hb' (flags_0 f0 f1 hf)
  · exact Apply_19 w fl a b h1 h2 ha ha' hb hb' (flags_0 f0 f1 hf)
theorem hasType_any (d : Ins) (W : World) : Calls Try.prog 36 #[d.val] W fun e w' => e = .returned (.bool (typE d.op d.ty d.n)) ∧ Below W.heap.size W w' := by
  obtain ⟨op, rg, ty, n, fl, ap, al, ac, tp, tl, tc, ars⟩ := d
  show Calls _ _ #[.agg #[.int .i64 op, .int .i64 rg, .int .i64 ty, .int .i64 n, .int .i64 fl, .slice ap al ac, .slice tp tl tc]] W fun e w' => e = .returned (.bool (typE op ty n)) ∧ _
  have c1 := fun a b c W => isFrom_any a b c W
  have c2 := fun a b c W => Convert_any a b c 0 (by decide) (by decide) W
  have P := below1 W (.cells #[.int .i64 op, .int .i64 rg, .int .i64 ty, .int .i64 n, .int .i64 fl, .slice ap al ac, .slice tp tl tc] 25)
  unfold typE
  have hop : (op = 14 ∨ op = 15 ∨ op = 23 ∨ op = 24) ∨ (op = 20 ∨ op = 21 ∨ op = 22) ∨ op = 29 ∨ ¬ ((op = 14 ∨ op = 15 ∨ op = 23 ∨ op = 24) ∨ (op = 20 ∨ op = 21 ∨ op = 22) ∨ op = 29) := by omega
  rcases hop with h | h | h | h
  · rw [if_pos h]
    rcases h with rfl | rfl | rfl | rfl
    all_goals
      go_enter Try.func36, Try.ntmps36
      go_wp2_with (first | ((with_reducible refine (c1 _ _ _ _).mono ?_); rintro e w' ⟨rfl, rfl⟩))
      go_ret
      exact ⟨rfl, P⟩
  · rw [if_neg (by omega), if_pos h]
    rcases h with rfl | rfl | rfl
    all_goals
      go_enter Try.func36, Try.ntmps36
      go_wp2_with (first | ((with_reducible refine (c2 _ _ _ _).mono ?_); rintro e w' ⟨rfl, rfl⟩))
      go_ret
      exact ⟨rfl, P⟩
  · subst h
    rw [if_neg (by decide), if_neg (by decide), if_pos rfl]
    by_cases ht : ty = 65
    · subst ht
      go_enter Try.func36, Try.ntmps36
      go_wp2_with fail
      go_ret
      exact ⟨rfl, P⟩
    · have ht' : (ty == 65) = false := by simpa using ht
      have e : decide (ty = 65) = false := decide_eq_false ht
      rw [e]
      clear e ht
      go_enter Try.func36, Try.ntmps36
      go_wp2_with fail
      go_ret
      exact ⟨rfl, P⟩
  · rw [if_neg (by omega), if_neg (by omega), if_neg (by omega)]
    have q1 : (op == 14) = false := by simp; omega
    have q2 : (op == 15) = false := by simp; omega
    have q3 : (op == 23) = false := by simp; omega
    have q4 : (op == 24) = false := by simp; omega
    have q5 : (op == 20) = false := by simp; omega
    have q6 : (op == 21) = false := by simp; omega
    have q7 : (op == 22) = false := by simp; omega
    have q8 : (op == 29) = false := by simp; omega
    clear h
    have c3 : ∀ W, Calls Try.prog 55 #[.int .i64 1, .int .i64 19, .int .i64 op] W fun e w' => e = .returned (.bool (decide (1 ≤ op) && decide (op ≤ 19))) ∧ W = w' := c1 1 19 op
    have c4 : ∀ W, Calls Try.prog 55 #[.int .i64 1, .int .i64 64, .int .i64 ty] W fun e w' => e = .returned (.bool (decide (1 ≤ ty) && decide (ty ≤ 64))) ∧ W = w' := c1 1 64 ty
    obtain ⟨A, eA⟩ : ∃ A, (decide (1 ≤ op) && decide (op ≤ 19)) = A := ⟨_, rfl⟩
    obtain ⟨B, eB⟩ : ∃ B, (decide (1 ≤ ty) && decide (ty ≤ 64)) = B := ⟨_, rfl⟩
    rw [eA] at c3
    rw [eB] at c4
    rw [eA, eB]
    clear c1 c2 eA eB
    cases A
    all_goals
      go_enter Try.func36, Try.ntmps36
      go_wp2_with (first | ((with_reducible refine (c3 _).mono ?_); rintro e w' ⟨rfl, rfl⟩) | ((with_reducible refine (c4 _).mono ?_); rintro e w' ⟨rfl, rfl⟩))
      go_ret
      exact ⟨rfl, P⟩
theorem hasForm_any (d : Ins) (W : World) : Calls Try.prog 16 #[d.val] W fun e w' => e = .returned (.bool (frmE d.op d.ty d.n d.fl)) ∧ Below W.heap.size W w' := by
  have c2 : ∀ W, Calls Try.prog 36 #[d.val] W fun e w' => e = .returned (.bool (typE d.op d.ty d.n)) ∧ Below W.heap.size W w' := fun W => hasType_any d W
  obtain ⟨op, rg, ty, n, fl, ap, al, ac, tp, tl, tc, ars⟩ := d
  show Calls _ _ #[.agg #[.int .i64 op, .int .i64 rg, .int .i64 ty, .int .i64 n, .int .i64 fl, .slice ap al ac, .slice tp tl tc]] W fun e w' => e = .returned (.bool (frmE op ty n fl)) ∧ _
  have c3 : ∀ W, Calls Try.prog 36 #[.agg #[.int .i64 op, .int .i64 rg, .int .i64 ty, .int .i64 n, .int .i64 fl, .slice ap al ac, .slice tp tl tc]] W fun e w' => e = .returned (.bool (typE op ty n)) ∧ Below W.heap.size W w' := c2
  clear c2
  have c1 := fun W => Flags_any op W
  have P := Lib.hid (below1 W (.cells #[.int .i64 op, .int .i64 rg, .int .i64 ty, .int .i64 n, .int .i64 fl, .slice ap al ac, .slice tp tl tc] 25))
  unfold frmE
  obtain ⟨T, eT⟩ : ∃ T, typE op ty n = T := ⟨_, rfl⟩
  rw [eT] at c3 ⊢
  obtain ⟨f, ef⟩ : ∃ f, flg op = f := ⟨_, rfl⟩
  rw [ef] at c1 ⊢
  clear eT ef
  by_cases h : bits .andNot .i64 fl f = 0
  · have h' : (bits .andNot .i64 fl f == 0) = true := by simpa using h
    rw [decide_eq_true h]
    clear h
    go_enter Try.func16, Try.ntmps16
    go_wp2_with fail
    go_region_law (first | (go_simp; (with_reducible refine (c1 _).mono ?_); rintro e w' ⟨rfl, rfl⟩) | (go_simp; (with_reducible refine (c3 _).mono ?_); rintro e w5 ⟨rfl, hb⟩; have Q := Lib.hid (P.out.trans ((Below.trans (below_drew (Below.refl _ _)) hb).mono P.out.size)); clear hb))
    all_goals
      go_wp2_with fail
      go_ret
      exact ⟨rfl, Q.out⟩
  · have h' : (bits .andNot .i64 fl f == 0) = false := by simpa using h
    rw [decide_eq_false h]
    clear h
    have c5 : ∀ W, Calls Try.prog 35 #[.int .i64 op] W fun e w' => e = .returned (.int .i64 f) ∧ w' = W := fun W => (c1 W).mono fun _ _ ⟨x, y⟩ => ⟨x, y.symm⟩
    go_enter Try.func16, Try.ntmps16
    go_wp2_with fail
    go_quiet ((go_at_call 35; exact Calls.quiet_of_same (c5 _)))
    go_wp2_with fail
    go_ret
    exact ⟨rfl, P.out.trans ((below_drewN _ _).mono P.out.size)⟩
end Go.Proofs.Ytpjfkmaceaikbaa
