/- The document's eval (latheref10), by EV: divided, gep. -/
import Derived.Test.YtpjfkmaceaikbaaReGM
import Derived.Test.YtpjfkmaceaikbaaReDM
namespace Go.Proofs.Ytpjfkmaceaikbaa
open Go.RowKit Go.Maps
set_option linter.unusedVariables false
set_option linter.unusedSimpArgs false
set_option maxRecDepth 100000
set_option maxHeartbeats 1000000

theorem rDiv_all_s5 (op rg ty n fl : Int) (ap : Option Addr) (al ac : Nat) (tp : Option Addr) (tl tc : Nat) (a b : EV) (fa : Fit ty a) (fb : Fit ty b) (hw : isW ty = true) (hs : op = 5 ∨ op = 7) (q5 : (op == 5) = true) (W : World)
    (num : ∀ x y, Fit ty (.num x) → Fit ty (.num y) → ∀ W, Calls Try.prog 50 #[.agg #[.int .i64 op, .int .i64 rg, .int .i64 ty, .int .i64 n, .int .i64 fl, .slice ap al ac, .slice tp tl tc], .int .u64 x, .int .u64 y] W fun e w' => e = .returned (.tuple #[(appE op ty fl x y).1.vl.val, .int .i64 (appE op ty fl x y).2]) ∧ Below W.heap.size W w') :
    Calls Try.prog 28 #[.agg #[.int .i64 op, .int .i64 rg, .int .i64 ty, .int .i64 n, .int .i64 fl, .slice ap al ac, .slice tp tl tc], a.vl.val, b.vl.val] W fun e w' => e = .returned (.tuple #[(divE op ty fl a b).1.vl.val, .int .i64 (divE op ty fl a b).2]) ∧ Below W.heap.size W w' := by
  have cM : ∀ W, Calls Try.prog 49 #[.int .i64 ty] W fun e w' => e = .returned (.int .u64 (msk ty)) ∧ W = w' := fun W => rMask_any ty W
  obtain ⟨t1, t2⟩ := isW_iff.1 hw
  cases b with
  | poi => exact rDiv_p_s5 op rg ty n fl ap al ac tp tl tc a.vl.k a.vl.b a.vl.bk a.vl.o 0 0 0 W q5
  | any => exact rDiv_a_s5 op rg ty n fl ap al ac tp tl tc a.vl.k a.vl.b a.vl.bk a.vl.o 0 0 0 W q5
  | adr c o => exact absurd (show ty = 65 from fb) (by omega)
  | num y =>
    by_cases h0 : y = 0
    · subst h0
      have e : divE op ty fl a (.num 0) = (.poi, 2) := by simp [divE]
      rw [e]
      exact rDiv_z_s5 op rg ty n fl ap al ac tp tl tc a.vl.k a.vl.b a.vl.bk a.vl.o _ W q5 cM
    · have hy : (y == 0) = false := by simpa using h0
      by_cases h1 : y = msk ty
      · rw [← h1] at cM
        cases a with
        | poi =>
          have e : divE op ty fl .poi (.num y) = (.poi, 2) := by unfold divE; dsimp only; rw [if_neg h0, if_pos ⟨hs, h1⟩]
          rw [e]
          exact rDiv_mp_s5 op rg ty n fl ap al ac tp tl tc 0 0 0 y W q5 hy cM
        | any =>
          have e : divE op ty fl .any (.num y) = (.poi, 4) := by unfold divE; dsimp only; rw [if_neg h0, if_pos ⟨hs, h1⟩]
          rw [e]
          exact rDiv_ma_s5 op rg ty n fl ap al ac tp tl tc 0 0 0 y W q5 hy cM
        | adr c o => exact absurd (show ty = 65 from fa) (by omega)
        | num x =>
          have e : divE op ty fl (.num x) (.num y) = appE op ty fl x y := by unfold divE; dsimp only; rw [if_neg h0, if_pos ⟨hs, h1⟩] <;> rfl
          rw [e]
          exact rDiv_mn_s5 op rg ty n fl ap al ac tp tl tc x y _ _ _ _ _ W q5 hy cM (num x y fa fb)
      · have hm : (y == msk ty) = false := by simpa using h1
        have e : divE op ty fl a (.num y) = joinE op ty fl a (.num y) := by simp [divE, h0, h1]
        rw [e]
        clear e
        cases a with
        | poi => exact rDiv_np_s5 op rg ty n fl ap al ac tp tl tc 0 0 0 y _ W q5 hy cM hm
        | adr c o => exact absurd (show ty = 65 from fa) (by omega)
        | num x => exact rDiv_nn_s5 op rg ty n fl ap al ac tp tl tc x y _ _ _ _ _ _ W q5 hy cM hm (num x y fa fb)
        | any =>
          show Calls _ _ _ W fun e w' => e = .returned (.tuple #[(unfE fl).vl.val, .int .i64 0]) ∧ _
          unfold unfE
          by_cases hf : fl = 0
          · rw [if_pos hf]; exact rDiv_na_s5 op rg ty n fl ap al ac tp tl tc 0 0 0 y _ W q5 hy cM hm (by simpa using hf)
          · rw [if_neg hf]; exact rDiv_nu_s5 op rg ty n fl ap al ac tp tl tc 0 0 0 y _ W q5 hy cM hm (by simpa using hf)
theorem rDiv_all_s7 (op rg ty n fl : Int) (ap : Option Addr) (al ac : Nat) (tp : Option Addr) (tl tc : Nat) (a b : EV) (fa : Fit ty a) (fb : Fit ty b) (hw : isW ty = true) (hs : op = 5 ∨ op = 7) (q5 : (op == 5) = false) (q7 : (op == 7) = true) (W : World)
    (num : ∀ x y, Fit ty (.num x) → Fit ty (.num y) → ∀ W, Calls Try.prog 50 #[.agg #[.int .i64 op, .int .i64 rg, .int .i64 ty, .int .i64 n, .int .i64 fl, .slice ap al ac, .slice tp tl tc], .int .u64 x, .int .u64 y] W fun e w' => e = .returned (.tuple #[(appE op ty fl x y).1.vl.val, .int .i64 (appE op ty fl x y).2]) ∧ Below W.heap.size W w') :
    Calls Try.prog 28 #[.agg #[.int .i64 op, .int .i64 rg, .int .i64 ty, .int .i64 n, .int .i64 fl, .slice ap al ac, .slice tp tl tc], a.vl.val, b.vl.val] W fun e w' => e = .returned (.tuple #[(divE op ty fl a b).1.vl.val, .int .i64 (divE op ty fl a b).2]) ∧ Below W.heap.size W w' := by
  have cM : ∀ W, Calls Try.prog 49 #[.int .i64 ty] W fun e w' => e = .returned (.int .u64 (msk ty)) ∧ W = w' := fun W => rMask_any ty W
  obtain ⟨t1, t2⟩ := isW_iff.1 hw
  cases b with
  | poi => exact rDiv_p_s7 op rg ty n fl ap al ac tp tl tc a.vl.k a.vl.b a.vl.bk a.vl.o 0 0 0 W q5 q7
  | any => exact rDiv_a_s7 op rg ty n fl ap al ac tp tl tc a.vl.k a.vl.b a.vl.bk a.vl.o 0 0 0 W q5 q7
  | adr c o => exact absurd (show ty = 65 from fb) (by omega)
  | num y =>
    by_cases h0 : y = 0
    · subst h0
      have e : divE op ty fl a (.num 0) = (.poi, 2) := by simp [divE]
      rw [e]
      exact rDiv_z_s7 op rg ty n fl ap al ac tp tl tc a.vl.k a.vl.b a.vl.bk a.vl.o _ W q5 q7 cM
    · have hy : (y == 0) = false := by simpa using h0
      by_cases h1 : y = msk ty
      · rw [← h1] at cM
        cases a with
        | poi =>
          have e : divE op ty fl .poi (.num y) = (.poi, 2) := by unfold divE; dsimp only; rw [if_neg h0, if_pos ⟨hs, h1⟩]
          rw [e]
          exact rDiv_mp_s7 op rg ty n fl ap al ac tp tl tc 0 0 0 y W q5 q7 hy cM
        | any =>
          have e : divE op ty fl .any (.num y) = (.poi, 4) := by unfold divE; dsimp only; rw [if_neg h0, if_pos ⟨hs, h1⟩]
          rw [e]
          exact rDiv_ma_s7 op rg ty n fl ap al ac tp tl tc 0 0 0 y W q5 q7 hy cM
        | adr c o => exact absurd (show ty = 65 from fa) (by omega)
        | num x =>
          have e : divE op ty fl (.num x) (.num y) = appE op ty fl x y := by unfold divE; dsimp only; rw [if_neg h0, if_pos ⟨hs, h1⟩] <;> rfl
          rw [e]
          exact rDiv_mn_s7 op rg ty n fl ap al ac tp tl tc x y _ _ _ _ _ W q5 q7 hy cM (num x y fa fb)
      · have hm : (y == msk ty) = false := by simpa using h1
        have e : divE op ty fl a (.num y) = joinE op ty fl a (.num y) := by simp [divE, h0, h1]
        rw [e]
        clear e
        cases a with
        | poi => exact rDiv_np_s7 op rg ty n fl ap al ac tp tl tc 0 0 0 y _ W q5 q7 hy cM hm
        | adr c o => exact absurd (show ty = 65 from fa) (by omega)
        | num x => exact rDiv_nn_s7 op rg ty n fl ap al ac tp tl tc x y _ _ _ _ _ _ W q5 q7 hy cM hm (num x y fa fb)
        | any =>
          show Calls _ _ _ W fun e w' => e = .returned (.tuple #[(unfE fl).vl.val, .int .i64 0]) ∧ _
          unfold unfE
          by_cases hf : fl = 0
          · rw [if_pos hf]; exact rDiv_na_s7 op rg ty n fl ap al ac tp tl tc 0 0 0 y _ W q5 q7 hy cM hm (by simpa using hf)
          · rw [if_neg hf]; exact rDiv_nu_s7 op rg ty n fl ap al ac tp tl tc 0 0 0 y _ W q5 q7 hy cM hm (by simpa using hf)
theorem rDiv_all_u (op rg ty n fl : Int) (ap : Option Addr) (al ac : Nat) (tp : Option Addr) (tl tc : Nat) (a b : EV) (fa : Fit ty a) (fb : Fit ty b) (hw : isW ty = true) (hs : ¬ (op = 5 ∨ op = 7)) (q5 : (op == 5) = false) (q7 : (op == 7) = false) (W : World)
    (num : ∀ x y, Fit ty (.num x) → Fit ty (.num y) → ∀ W, Calls Try.prog 50 #[.agg #[.int .i64 op, .int .i64 rg, .int .i64 ty, .int .i64 n, .int .i64 fl, .slice ap al ac, .slice tp tl tc], .int .u64 x, .int .u64 y] W fun e w' => e = .returned (.tuple #[(appE op ty fl x y).1.vl.val, .int .i64 (appE op ty fl x y).2]) ∧ Below W.heap.size W w') :
    Calls Try.prog 28 #[.agg #[.int .i64 op, .int .i64 rg, .int .i64 ty, .int .i64 n, .int .i64 fl, .slice ap al ac, .slice tp tl tc], a.vl.val, b.vl.val] W fun e w' => e = .returned (.tuple #[(divE op ty fl a b).1.vl.val, .int .i64 (divE op ty fl a b).2]) ∧ Below W.heap.size W w' := by
  have cM : ∀ W, Calls Try.prog 49 #[.int .i64 ty] W fun e w' => e = .returned (.int .u64 (msk ty)) ∧ W = w' := fun W => rMask_any ty W
  obtain ⟨t1, t2⟩ := isW_iff.1 hw
  cases b with
  | poi => exact rDiv_p_u op rg ty n fl ap al ac tp tl tc a.vl.k a.vl.b a.vl.bk a.vl.o 0 0 0 W q5 q7
  | any => exact rDiv_a_u op rg ty n fl ap al ac tp tl tc a.vl.k a.vl.b a.vl.bk a.vl.o 0 0 0 W q5 q7
  | adr c o => exact absurd (show ty = 65 from fb) (by omega)
  | num y =>
    by_cases h0 : y = 0
    · subst h0
      have e : divE op ty fl a (.num 0) = (.poi, 2) := by simp [divE]
      rw [e]
      exact rDiv_z_u op rg ty n fl ap al ac tp tl tc a.vl.k a.vl.b a.vl.bk a.vl.o W q5 q7
    · have hy : (y == 0) = false := by simpa using h0
      have e : divE op ty fl a (.num y) = joinE op ty fl a (.num y) := by simp [divE, h0, hs]
      rw [e]
      clear e
      cases a with
      | poi => exact rDiv_np_u op rg ty n fl ap al ac tp tl tc 0 0 0 y W q5 q7 hy
      | adr c o => exact absurd (show ty = 65 from fa) (by omega)
      | num x => exact rDiv_nn_u op rg ty n fl ap al ac tp tl tc x y _ _ _ _ _ W q5 q7 hy (num x y fa fb)
      | any =>
        show Calls _ _ _ W fun e w' => e = .returned (.tuple #[(unfE fl).vl.val, .int .i64 0]) ∧ _
        unfold unfE
        by_cases hf : fl = 0
        · rw [if_pos hf]; exact rDiv_na_u op rg ty n fl ap al ac tp tl tc 0 0 0 y W q5 q7 hy (by simpa using hf)
        · rw [if_neg hf]; exact rDiv_nu_u op rg ty n fl ap al ac tp tl tc 0 0 0 y W q5 q7 hy (by simpa using hf)
theorem rDivided_any (d : Ins) (a b : EV) (fa : Fit d.ty a) (fb : Fit d.ty b) (ho : d.op = 4 ∨ d.op = 5 ∨ d.op = 6 ∨ d.op = 7) (hw : isW d.ty = true) (f0 : -9223372036854775808 ≤ d.fl) (f1 : d.fl ≤ 9223372036854775807) (hf : bits .andNot .i64 d.fl (flg d.op) = 0) (W : World) :
    Calls Try.prog 28 #[d.val, a.vl.val, b.vl.val] W fun e w' => e = .returned (.tuple #[(divE d.op d.ty d.fl a b).1.vl.val, .int .i64 (divE d.op d.ty d.fl a b).2]) ∧ Below W.heap.size W w' := by
  have num : ∀ x y, Fit d.ty (.num x) → Fit d.ty (.num y) → ∀ W, Calls Try.prog 50 #[d.val, .int .u64 x, .int .u64 y] W fun e w' => e = .returned (.tuple #[(appE d.op d.ty d.fl x y).1.vl.val, .int .i64 (appE d.op d.ty d.fl x y).2]) ∧ Below W.heap.size W w' := fun x y fx fy W => rApplied_any d x y (by omega) (by omega) f0 f1 hf fx fy W
  obtain ⟨op, rg, ty, n, fl, ap, al, ac, tp, tl, tc, ars⟩ := d
  simp only at fa fb ho hw f0 f1 hf num
  rcases ho with rfl | rfl | rfl | rfl
  · exact rDiv_all_u 4 rg ty n fl ap al ac tp tl tc a b fa fb hw (by decide) rfl rfl W num
  · exact rDiv_all_s5 5 rg ty n fl ap al ac tp tl tc a b fa fb hw (by decide) rfl W num
  · exact rDiv_all_u 6 rg ty n fl ap al ac tp tl tc a b fa fb hw (by decide) rfl rfl W num
  · exact rDiv_all_s7 7 rg ty n fl ap al ac tp tl tc a b fa fb hw (by decide) rfl rfl W num
end Go.Proofs.Ytpjfkmaceaikbaa
