/- What both Apply answer at whatever arguments. -/
import Derived.Test.YthhdgfhndijmeaaRefT
namespace Go.Proofs.Ythhdgfhndijmeaa
open Go.RowKit
set_option linter.unusedVariables false
set_option linter.unusedSimpArgs false

theorem rApply_all (op w fl a b : Int) (o1 : 1 ≤ op) (o2 : op ≤ 19) (h1 : 1 ≤ w) (h2 : w ≤ 64) (f0 : -9223372036854775808 ≤ fl) (f1 : fl ≤ 9223372036854775807) (hf : bits .andNot .i64 fl (flg op) = 0)
    (ha : 0 ≤ a) (ha' : a ≤ 18446744073709551615) (hb : 0 ≤ b) (hb' : b ≤ 18446744073709551615) :
    Gives 13 #[.int .i64 op, .int .i64 w, .int .i64 fl, .int .u64 a, .int .u64 b] (aplT w op fl a b) ∧
    Makes 14 #[.int .i64 op, .int .i64 w, .int .i64 fl, .int .u64 a, .int .u64 b] (aplT w op fl a b) := by
  have hw : isW w = true := isW_iff.2 ⟨h1, h2⟩
  have cases19 : op = 1 ∨ op = 2 ∨ op = 3 ∨ op = 4 ∨ op = 5 ∨ op = 6 ∨ op = 7 ∨ op = 8 ∨ op = 9 ∨ op = 10 ∨ op = 11 ∨ op = 12 ∨ op = 13 ∨ op = 14 ∨ op = 15 ∨ op = 16 ∨ op = 17 ∨ op = 18 ∨ op = 19 := by omega
  have cmp : ∀ k, (k = 14 ∨ k = 15 ∨ k = 16 ∨ k = 17 ∨ k = 18 ∨ k = 19) → aplT w k 0 a b = .tuple #[.int .u64 (if cmpB k (a % pw w.toNat) (b % pw w.toNat) (sgn w a) (sgn w b) then 1 else 0), .int .i64 0] := by
    intro k hk
    have e1 := sgn_in a h1 h2
    have e2 := sgn_in b h1 h2
    rw [e1, e2]
    rcases hk with rfl | rfl | rfl | rfl | rfl | rfl <;> rfl
  have bw : ∀ k, (k = 8 ∨ k = 9 ∨ k = 10) → aplT w k 0 a b = .tuple #[.int .u64 (plV w.toNat k (a % pw w.toNat) (b % pw w.toNat)), .int .i64 0] := by
    intro k hk
    rcases hk with rfl | rfl | rfl <;> rfl
  rcases cases19 with rfl | rfl | rfl | rfl | rfl | rfl | rfl | rfl | rfl | rfl | rfl | rfl | rfl | rfl | rfl | rfl | rfl | rfl | rfl
  · have hf' := flags_3 f0 f1 hf
    exact ⟨Apply_1 w fl a b h1 h2 ha ha' hb hb' hf', rApply_1 w fl a b _ _ hw hf (flagged_of 1 w fl a b (by decide) hf' h1 h2 ha ha' hb hb')⟩
  · have hf' := flags_3 f0 f1 hf
    exact ⟨Apply_2 w fl a b h1 h2 ha ha' hb hb' hf', rApply_2 w fl a b _ _ hw hf (flagged_of 2 w fl a b (by decide) hf' h1 h2 ha ha' hb hb')⟩
  · have hf' := flags_3 f0 f1 hf
    exact ⟨Apply_3 w fl a b h1 h2 ha ha' hb hb' hf', rApply_3 w fl a b _ _ hw hf (flagged_of 3 w fl a b (by decide) hf' h1 h2 ha ha' hb hb')⟩
  · have hf' := flags_4 f0 f1 hf
    exact ⟨Apply_4 w fl a b h1 h2 ha ha' hb hb' hf', rApply_4 w fl a b _ _ hw hf (divided_of 4 w fl a b (Or.inl ⟨by decide, hf'⟩) h1 h2 ha ha' hb hb')⟩
  · have hf' := flags_4 f0 f1 hf
    exact ⟨Apply_5 w fl a b h1 h2 ha ha' hb hb' hf', rApply_5 w fl a b _ _ hw hf (divided_of 5 w fl a b (Or.inl ⟨by decide, hf'⟩) h1 h2 ha ha' hb hb')⟩
  · have hf' := flags_0 f0 f1 hf
    exact ⟨Apply_6 w fl a b h1 h2 ha ha' hb hb' hf', rApply_6 w fl a b _ _ hw hf (divided_of 6 w fl a b (Or.inr ⟨by decide, hf'⟩) h1 h2 ha ha' hb hb')⟩
  · have hf' := flags_0 f0 f1 hf
    exact ⟨Apply_7 w fl a b h1 h2 ha ha' hb hb' hf', rApply_7 w fl a b _ _ hw hf (divided_of 7 w fl a b (Or.inr ⟨by decide, hf'⟩) h1 h2 ha ha' hb hb')⟩
  · obtain rfl := flags_0 f0 f1 hf
    exact ⟨Apply_8 w 0 a b h1 h2 ha ha' hb hb' rfl, (rApply_8 w 0 a b _ _ hw hf (bitwise_of 8 w a b (by decide) h1 h2 ha ha' hb hb') rfl).as (bw 8 (by decide)).symm⟩
  · obtain rfl := flags_0 f0 f1 hf
    exact ⟨Apply_9 w 0 a b h1 h2 ha ha' hb hb' rfl, (rApply_9 w 0 a b _ _ hw hf (bitwise_of 9 w a b (by decide) h1 h2 ha ha' hb hb') rfl).as (bw 9 (by decide)).symm⟩
  · obtain rfl := flags_0 f0 f1 hf
    exact ⟨Apply_10 w 0 a b h1 h2 ha ha' hb hb' rfl, (rApply_10 w 0 a b _ _ hw hf (bitwise_of 10 w a b (by decide) h1 h2 ha ha' hb hb') rfl).as (bw 10 (by decide)).symm⟩
  · have hf' := flags_3 f0 f1 hf
    exact ⟨Apply_11 w fl a b h1 h2 ha ha' hb hb' hf', rApply_11 w fl a b _ _ hw hf (flagged_of11 w fl a b hf' h1 h2 ha ha' hb hb')⟩
  · have hf' := flags_4 f0 f1 hf
    exact ⟨Apply_12 w fl a b h1 h2 ha ha' hb hb' hf', rApply_12 w fl a b _ _ hw hf (right_of 12 w fl a b (by decide) hf' h1 h2 ha ha' hb hb')⟩
  · have hf' := flags_4 f0 f1 hf
    exact ⟨Apply_13 w fl a b h1 h2 ha ha' hb hb' hf', rApply_13 w fl a b _ _ hw hf (right_of 13 w fl a b (by decide) hf' h1 h2 ha ha' hb hb')⟩
  · obtain rfl := flags_0 f0 f1 hf
    exact ⟨Apply_14 w 0 a b h1 h2 ha ha' hb hb' rfl, (rApply_14 w 0 a b _ _ hw hf _ (compared_of 14 w a b (by decide) h1 h2 ha ha' hb hb') rfl rfl).as (cmp 14 (by decide)).symm⟩
  · obtain rfl := flags_0 f0 f1 hf
    exact ⟨Apply_15 w 0 a b h1 h2 ha ha' hb hb' rfl, (rApply_15 w 0 a b _ _ hw hf _ (compared_of 15 w a b (by decide) h1 h2 ha ha' hb hb') rfl rfl).as (cmp 15 (by decide)).symm⟩
  · obtain rfl := flags_0 f0 f1 hf
    exact ⟨Apply_16 w 0 a b h1 h2 ha ha' hb hb' rfl, (rApply_16 w 0 a b _ _ hw hf _ (compared_of 16 w a b (by decide) h1 h2 ha ha' hb hb') rfl rfl).as (cmp 16 (by decide)).symm⟩
  · obtain rfl := flags_0 f0 f1 hf
    exact ⟨Apply_17 w 0 a b h1 h2 ha ha' hb hb' rfl, (rApply_17 w 0 a b _ _ hw hf _ (compared_of 17 w a b (by decide) h1 h2 ha ha' hb hb') rfl rfl).as (cmp 17 (by decide)).symm⟩
  · obtain rfl := flags_0 f0 f1 hf
    exact ⟨Apply_18 w 0 a b h1 h2 ha ha' hb hb' rfl, (rApply_18 w 0 a b _ _ hw hf _ (compared_of 18 w a b (by decide) h1 h2 ha ha' hb hb') rfl rfl).as (cmp 18 (by decide)).symm⟩
  · obtain rfl := flags_0 f0 f1 hf
    exact ⟨Apply_19 w 0 a b h1 h2 ha ha' hb hb' rfl, (rApply_19 w 0 a b _ _ hw hf _ (compared_of 19 w a b (by decide) h1 h2 ha ha' hb hb') rfl rfl).as (cmp 19 (by decide)).symm⟩
theorem both_apply (op w fl a b : Int) (f0 : -9223372036854775808 ≤ fl) (f1 : fl ≤ 9223372036854775807) (ha : 0 ≤ a) (ha' : a ≤ 18446744073709551615) (hb : 0 ≤ b) (hb' : b ≤ 18446744073709551615) :
    ∃ R E : Int, Gives 13 #[.int .i64 op, .int .i64 w, .int .i64 fl, .int .u64 a, .int .u64 b] (.tuple #[.int .u64 R, .int .i64 E]) ∧
    Makes 14 #[.int .i64 op, .int .i64 w, .int .i64 fl, .int .u64 a, .int .u64 b] (.tuple #[.int .u64 R, .int .i64 E]) := by
  by_cases ho : op < 1 ∨ 19 < op
  · refine ⟨0, 3, Apply_op op w fl a b ho, ?_⟩
    cases hw : isW w
    · exact rApply_w op w fl a b hw
    · exact rApply_op op w fl a b hw ho
  · cases hw : isW w
    · exact ⟨0, 3, Apply_w op w fl a b (by omega) (by omega) hw, rApply_w op w fl a b hw⟩
    · obtain ⟨h1, h2⟩ := isW_iff.1 hw
      by_cases hf : bits .andNot .i64 fl (flg op) = 0
      · exact ⟨_, _, rApply_all op w fl a b (by omega) (by omega) h1 h2 f0 f1 hf ha ha' hb hb'⟩
      · exact ⟨0, 3, Apply_fl op w fl a b (by omega) (by omega) h1 h2 hf, rApply_fl op w fl a b (by omega) (by omega) hw hf⟩
end Go.Proofs.Ythhdgfhndijmeaa
