/- The document's eval (latheref10), by EV: gep. -/
import Derived.Test.YtpjfkmaceaikbaaReGM
namespace Go.Proofs.Ytpjfkmaceaikbaa
open Go.RowKit Go.Maps
set_option linter.unusedVariables false
set_option linter.unusedSimpArgs false
set_option maxRecDepth 100000
set_option maxHeartbeats 1000000

theorem gep_num (o y : Int) (hy : 0 ≤ y) (hy2 : y ≤ 18446744073709551615) : wrap64 (IntKind.u64.wrap (IntKind.u64.wrap o + y)) = wrap64 (o + sgn 64 y) := by
  have e : pw (64 : Int).toNat = 18446744073709551616 := by decide +kernel
  have e2 : pw 63 = 9223372036854775808 := by decide +kernel
  rw [sgn_in y (by decide) (by decide), e, u64w, u64w, i64w, i64w]
  unfold sg
  have e3 : pw ((64 : Int).toNat - 1) = 9223372036854775808 := by decide +kernel
  simp only [e, e3]
  split <;> omega
theorem rPair_move (rg ty n : Int) (ap : Option Addr) (al ac : Nat) (tp : Option Addr) (tl tc : Nat) (a b : EV) (fa : Fit 65 a) (fb : Fit 64 b) (W : World) :
    Calls Try.prog 34 #[.agg #[.int .i64 29, .int .i64 rg, .int .i64 ty, .int .i64 n, .int .i64 0, .slice ap al ac, .slice tp tl tc], a.vl.val, b.vl.val] W fun e w' => e = .returned (.tuple #[(movE a b).vl.val, .int .i64 0]) ∧ Below W.heap.size W w' := by
  cases a with
  | poi =>
    have e : movE .poi b = .poi := by cases b <;> rfl
    rw [e]
    exact rPair_p 29 rg ty n 0 ap al ac tp tl tc 0 0 0 b.vl.k b.vl.b b.vl.bk b.vl.o W
  | num x => exact absurd (isW_iff.1 fa.1).2 (by decide)
  | adr c o =>
    cases b with
    | poi => exact rPair_q 29 rg ty n 0 ap al ac tp tl tc 2 0 c o 0 0 0 W rfl
    | any => exact rPair_ba 29 rg ty n 0 ap al ac tp tl tc 2 0 c o 0 0 0 W rfl rfl rfl
    | num y =>
      have h := Fit.num_in fb
      show Calls _ _ _ W fun e w' => e = .returned (.tuple #[.agg #[.int .i64 2, .int .u64 0, .int .i64 c, .int .i64 (wrap64 (o + sgn 64 y))], .int .i64 0]) ∧ _
      rw [← gep_num o y h.2.2.1 h.2.2.2.1]
      exact rPair_gep rg ty n 0 ap al ac tp tl tc c o y W
    | adr g v => exact absurd (show (64 : Int) = 65 from fb) (by decide)
  | any =>
    cases b with
    | poi => exact rPair_q 29 rg ty n 0 ap al ac tp tl tc 3 0 0 0 0 0 0 W rfl
    | num y => exact rPair_aa 29 rg ty n 0 ap al ac tp tl tc 0 0 0 1 y 0 0 W rfl rfl
    | adr g v => exact rPair_aa 29 rg ty n 0 ap al ac tp tl tc 0 0 0 2 0 g v W rfl rfl
    | any => exact rPair_aa 29 rg ty n 0 ap al ac tp tl tc 0 0 0 3 0 0 0 W rfl rfl
end Go.Proofs.Ytpjfkmaceaikbaa
