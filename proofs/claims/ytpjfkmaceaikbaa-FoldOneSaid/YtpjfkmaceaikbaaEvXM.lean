/- The laws' arguments, opened (values, rows of values, instructions). -/
import Derived.Test.YtpjfkmaceaikbaaEvKM
import Derived.OpenShut
import Derived.WideShapes
namespace Go.Proofs.Ytpjfkmaceaikbaa
open Go.RowKit Go.Maps Go.ChangeShapes Go.WideShapes Go.Deep
set_option linter.unusedVariables false
set_option linter.unusedSimpArgs false
set_option maxRecDepth 100000

def wf64 (k : Int) : Prop := -9223372036854775808 ≤ k ∧ k ≤ 9223372036854775807
theorem wf_in {k : Int} (h : (Lit.int .i64 k).wf = true) : wf64 k := by
  simp only [Lit.wf, Bool.and_eq_true, decide_eq_true_eq] at h
  have h1 := h.1
  have h2 := h.2
  simp [IntKind.min, IntKind.max, IntKind.bits, IntKind.signed] at h1 h2
  exact ⟨by omega, by omega⟩
theorem wf_u64 {k : Int} (h : (Lit.int .u64 k).wf = true) : 0 ≤ k ∧ k ≤ 18446744073709551615 := by
  simp only [Lit.wf, Bool.and_eq_true, decide_eq_true_eq] at h
  have h1 := h.1
  have h2 := h.2
  simp [IntKind.min, IntKind.max, IntKind.bits, IntKind.signed] at h1 h2
  exact ⟨by omega, by omega⟩
section
variable {H : Type} {enc : TypeId × Value → H} {W : World} {sp : Nat → Bool} {held : Bool}
theorem tr_w {t : TypeId} {q : IntKind} (ht : Try.prog.underlying t = some (.int q)) {n : Nat} {c : Value} {y : DataW H × List MemPlace} (h : DataW.trod enc Try.prog W 0 sp held n t [c] = some y) : ∃ k : Int, c = .int q k ∧ (Lit.int q k).wf = true := by
  obtain ⟨k, h1, _, h2⟩ := DataW.trod_int ht h
  exact ⟨k, (List.cons.inj h1).1, h2⟩
instance : Inhabited Vl := ⟨p0⟩
theorem tr_slice {t e : TypeId} (ht : Try.prog.underlying t = some (.slice e)) {n : Nat} {c : Value} {y : DataW H × List MemPlace} (h : DataW.trod enc Try.prog W 0 sp held n t [c] = some y) : ∃ (p : Option Addr) (l k : Nat), c = .slice p l k := by
  rcases open_slice ht h with ⟨h0, _⟩ | ⟨a, len, cap, _, _, _, _, h0, _⟩
  · exact ⟨none, 0, 0, (List.cons.inj h0).1⟩
  · exact ⟨some a, len, cap, (List.cons.inj h0).1⟩
theorem cellsIns : Try.prog.cellsOf 25 = 7 := by kernel_rfl
theorem cellsVs : Try.prog.cellsOf 22 = 1 := by kernel_rfl
theorem cellsIs : Try.prog.cellsOf 23 = 1 := by kernel_rfl
end
end Go.Proofs.Ytpjfkmaceaikbaa
