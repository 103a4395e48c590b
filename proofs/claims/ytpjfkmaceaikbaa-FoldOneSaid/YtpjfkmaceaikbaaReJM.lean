/- The document's eval (latheref10): is it such an instruction? -/
import Derived.Test.YtpjfkmaceaikbaaReEM
import Derived.Test.YtpjfkmaceaikbaaBitsUM
namespace Go.Proofs.Ytpjfkmaceaikbaa
open Go.RowKit Go.Maps
set_option linter.unusedVariables false
set_option linter.unusedSimpArgs false
set_option maxRecDepth 100000
set_option maxHeartbeats 4000000

theorem such_key (op ty n fl k : Int) : (if bits .andNot .i64 fl (flg op) = 0 then (if op = 14 ∨ op = 15 then decide (k = 2) && (decide (1 ≤ ty) && decide (ty ≤ 65)) else if op = 20 ∨ op = 21 ∨ op = 22 then decide (k = 1) && cvB op n ty else if op = 23 then decide (k = 3) && (decide (1 ≤ ty) && decide (ty ≤ 65)) else if op = 24 then decide (k = 1) && (decide (1 ≤ ty) && decide (ty ≤ 65)) else if op = 29 then decide (k = 2) && decide (ty = 65) else (decide (1 ≤ op) && decide (op ≤ 19)) && (decide (k = 2) && (decide (1 ≤ ty) && decide (ty ≤ 64)))) else false) = (frmE op ty n fl && decide (k = cntE op)) := by
  unfold frmE
  by_cases h0 : bits .andNot .i64 fl (flg op) = 0
  · rw [if_pos h0, decide_eq_true h0, Bool.true_and]
    unfold typE cntE
    by_cases h1 : op = 14 ∨ op = 15
    · have h2 : op ≠ 20 ∧ op ≠ 21 ∧ op ≠ 22 ∧ op ≠ 24 ∧ op ≠ 23 := by omega
      rw [if_pos h1, if_pos (by omega : op = 14 ∨ op = 15 ∨ op = 23 ∨ op = 24), if_neg (by omega : ¬ (op = 20 ∨ op = 21 ∨ op = 22 ∨ op = 24)), if_neg h2.2.2.2.2]
      exact Bool.and_comm _ _
    · rw [if_neg h1]
      by_cases h2 : op = 20 ∨ op = 21 ∨ op = 22
      · rw [if_pos h2, if_neg (by omega : ¬ (op = 14 ∨ op = 15 ∨ op = 23 ∨ op = 24)), if_pos h2, if_pos (by omega : op = 20 ∨ op = 21 ∨ op = 22 ∨ op = 24)]
        exact Bool.and_comm _ _
      · rw [if_neg h2]
        by_cases h3 : op = 23
        · rw [if_pos h3, if_pos (by omega : op = 14 ∨ op = 15 ∨ op = 23 ∨ op = 24), if_neg (by omega : ¬ (op = 20 ∨ op = 21 ∨ op = 22 ∨ op = 24)), if_pos h3]
          exact Bool.and_comm _ _
        · rw [if_neg h3]
          by_cases h4 : op = 24
          · rw [if_pos h4, if_pos (by omega : op = 14 ∨ op = 15 ∨ op = 23 ∨ op = 24), if_pos (by omega : op = 20 ∨ op = 21 ∨ op = 22 ∨ op = 24)]
            exact Bool.and_comm _ _
          · rw [if_neg h4, if_neg (by omega : ¬ (op = 14 ∨ op = 15 ∨ op = 23 ∨ op = 24)), if_neg h2, if_neg (by omega : ¬ (op = 20 ∨ op = 21 ∨ op = 22 ∨ op = 24)), if_neg h3]
            by_cases h5 : op = 29
            · rw [if_pos h5, if_pos h5]
              exact Bool.and_comm _ _
            · rw [if_neg h5, if_neg h5]
              cases decide (1 ≤ op) <;> cases decide (op ≤ 19) <;> cases decide (k = 2) <;> cases decide (1 ≤ ty) <;> cases decide (ty ≤ 64) <;> rfl
  · rw [if_neg h0, decide_eq_false h0, Bool.false_and, Bool.false_and]
theorem rSuch_any (op rg ty n fl : Int) (ap : Option Addr) (al ac : Nat) (tp : Option Addr) (tl tc : Nat) (k : Int) (W : World) :
    Calls Try.prog 25 #[.agg #[.int .i64 op, .int .i64 rg, .int .i64 ty, .int .i64 n, .int .i64 fl, .slice ap al ac, .slice tp tl tc], .int .i64 k] W fun e w' => e = .returned (.bool (frmE op ty n fl && decide (k = cntE op))) ∧ Below W.heap.size W w' := by
  have h := rSuch_of op rg ty n fl ap al ac tp tl tc k (cvV op n ty 0) (flg op) (cvB op n ty) W (fun W => rFlags_any op W) (fun W => (rConvert_any op n ty 0 (by decide) (by decide) W).mono fun e w' ⟨h1, h2⟩ => ⟨h1, h2.1⟩)
  rw [such_key] at h
  exact h
end Go.Proofs.Ytpjfkmaceaikbaa
