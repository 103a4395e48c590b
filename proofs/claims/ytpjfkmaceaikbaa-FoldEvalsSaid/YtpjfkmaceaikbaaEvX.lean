/- The laws' arguments, opened (values, rows of values, instructions). -/
import Derived.Test.YtpjfkmaceaikbaaEvK
import Derived.OpenShut
import Derived.WideShapes
namespace Go.Proofs.Ytpjfkmaceaikbaa
open Go.RowKit Go.Maps Go.ChangeShapes Go.WideShapes Go.Deep
set_option linter.unusedVariables false
set_option linter.unusedSimpArgs false
set_option maxRecDepth 100000

def wf64 (k : Int) : Prop := -9223372036854775808 ≤ k ∧ k ≤ 9223372036854775807
theorem wf_in {k : Int} (h : (Lit.int .i64 k).wf = true) : wf64 k := by
  simp only [Lit.wf, Bool.and_eq_true, decide_eq_true_eq] at h
  have h1 := h.1
  have h2 := h.2
  simp [IntKind.min, IntKind.max, IntKind.bits, IntKind.signed] at h1 h2
  exact ⟨by omega, by omega⟩
theorem wf_u64 {k : Int} (h : (Lit.int .u64 k).wf = true) : 0 ≤ k ∧ k ≤ 18446744073709551615 := by
  simp only [Lit.wf, Bool.and_eq_true, decide_eq_true_eq] at h
  have h1 := h.1
  have h2 := h.2
  simp [IntKind.min, IntKind.max, IntKind.bits, IntKind.signed] at h1 h2
  exact ⟨by omega, by omega⟩
theorem wf_u8 {k : Int} (h : (Lit.int .u8 k).wf = true) : 0 ≤ k ∧ k ≤ 255 := by
  simp only [Lit.wf, Bool.and_eq_true, decide_eq_true_eq] at h
  have h1 := h.1
  have h2 := h.2
  simp [IntKind.min, IntKind.max, IntKind.bits, IntKind.signed] at h1 h2
  exact ⟨by omega, by omega⟩
section
variable {H : Type} {enc : TypeId × Value → H} {W : World} {sp : Nat → Bool} {held : Bool}
theorem tr_w {t : TypeId} {q : IntKind} (ht : Try.prog.underlying t = some (.int q)) {n : Nat} {c : Value} {y : DataW H × List MemPlace} (h : DataW.trod enc Try.prog W 0 sp held n t [c] = some y) : ∃ k : Int, c = .int q k ∧ (Lit.int q k).wf = true := by
  obtain ⟨k, h1, _, h2⟩ := DataW.trod_int ht h
  exact ⟨k, (List.cons.inj h1).1, h2⟩
theorem open_i {r : Reach} {b0 : Nat} {v : Value} {d : DataW H} {p : List MemPlace} (hv : Value.okWide Try.prog W r b0 3 v) (h : DataW.Trod enc Try.prog W 0 sp held 3 v d p) : ∃ a : Int, v = .int .i64 a ∧ wf64 a := by
  obtain ⟨a, rfl, _, _, hw⟩ := open_int Try.underlying3 hv h
  exact ⟨a, rfl, wf_in hw⟩
theorem cellsI64 : Try.prog.cellsOf 2 = 1 := by kernel_rfl
theorem cellsVal4 : Try.prog.cellsOf 35 = 4 := by kernel_rfl
/-- What is known of a value. -/
def VlOk (x : Vl) : Prop := x.ok ∧ wf64 x.bk ∧ wf64 x.o ∧ wf64 x.k
def ByOk (y : By) : Prop := y.ok ∧ wf64 y.bk ∧ wf64 y.o ∧ wf64 y.k ∧ wf64 y.i
theorem val_cells {n : Nat} {cs : List Value} {y : DataW H × List MemPlace} (hlen : cs.length = 4) (h : DataW.trod enc Try.prog W 0 sp held n 35 cs = some y) : ∃ x : Vl, cs = vlC x ∧ VlOk x := by
  obtain ⟨xs, k, _, hx, _, hxl, hg⟩ := DataW.trod_struct Try.underlying35 h
  have c3 := cellsInt
  have c4 := cellsU64
  have c5 := cellsI64
  match cs, hlen with
  | [v0, v1, v2, v3], _ =>
    match xs, hxl with
    | [y0, y1, y2, y3], _ =>
      have g0 := hg 0 _ rfl
      have g1 := hg 1 _ rfl
      have g2 := hg 2 _ rfl
      have g3 := hg 3 _ rfl
      simp [c3, c4, c5] at g0 g1 g2 g3
      obtain ⟨k0, rfl, w0⟩ := tr_w Try.underlying3 g0
      obtain ⟨k1, rfl, w1⟩ := tr_w Try.underlying27 g1
      obtain ⟨k2, rfl, w2⟩ := tr_w Try.underlying3 g2
      obtain ⟨k3, rfl, w3⟩ := tr_w Try.underlying2 g3
      exact ⟨⟨k0, k1, k2, k3⟩, rfl, wf_u64 w1, wf_in w2, wf_in w3, wf_in w0⟩
theorem val_shape {r : Reach} {b0 : Nat} {v : Value} {d : DataW H} {p : List MemPlace} (hv : Value.okWide Try.prog W r b0 35 v) (h : DataW.Trod enc Try.prog W 0 sp held 35 v d p) : ∃ x : Vl, v = x.val ∧ VlOk x := by
  obtain ⟨cs, rfl, hsz⟩ := okWide_struct Try.underlying35 hv
  obtain ⟨fuel, hf⟩ := h
  obtain ⟨x, e, ho⟩ := val_cells (cs := cs.toList) (by simpa using hsz.trans cellsVal4) hf
  refine ⟨x, ?_, ho⟩
  have : cs = (vlC x).toArray := by rw [← e]
  rw [this]; rfl
instance : Inhabited Vl := ⟨p0⟩
theorem vals_shape {r : Reach} {b0 : Nat} {v : Value} {d : DataW H} {p : List MemPlace} (hk : Value.okWide Try.prog W r b0 33 v) (h : DataW.Trod enc Try.prog W 0 sp held 33 v d p) : ∃ (q : Option Addr) (c : Nat) (l : List Vl), v = .slice q l.length c ∧ ListIn vlC NoMem W.heap.size W q l.length c l ∧ ∀ y ∈ l, VlOk y := by
  obtain ⟨a0, n0, c0, rfl⟩ := okWide_slice Try.underlying33 hk
  obtain ⟨fuel, hf⟩ := h
  rw [show (Value.slice a0 n0 c0).cells = #[Value.slice a0 n0 c0] from rfl] at hf
  obtain ⟨q, c, xs, e, hl, hp, _, _⟩ := open_list (α := Vl) (m := 4) (by decide) vlC vlC_len NoMem VlOk (fun _ => 1) Try.underlying33 cellsVal4 (fun n cs y hlen h2 => by
    obtain ⟨x, e, ho⟩ := val_cells hlen h2
    exact ⟨x, e, trivial, ho, bulk_pos _⟩) hf
  exact ⟨q, c, xs, e, hl, hp⟩
theorem tr_slice {t e : TypeId} (ht : Try.prog.underlying t = some (.slice e)) {n : Nat} {c : Value} {y : DataW H × List MemPlace} (h : DataW.trod enc Try.prog W 0 sp held n t [c] = some y) : ∃ (p : Option Addr) (l k : Nat), c = .slice p l k := by
  rcases open_slice ht h with ⟨h0, _⟩ | ⟨a, len, cap, _, _, _, _, h0, _⟩
  · exact ⟨none, 0, 0, (List.cons.inj h0).1⟩
  · exact ⟨some a, len, cap, (List.cons.inj h0).1⟩
theorem cellsIns : Try.prog.cellsOf 25 = 7 := by kernel_rfl
theorem cellsVs : Try.prog.cellsOf 22 = 1 := by kernel_rfl
theorem cellsIs : Try.prog.cellsOf 23 = 1 := by kernel_rfl
/-- An argument that is an instruction. -/
theorem ins_shape {r : Reach} {b0 : Nat} {v : Value} {d : DataW H} {p : List MemPlace} (hv : Value.okWide Try.prog W r b0 25 v) (h : DataW.Trod enc Try.prog W 0 sp held 25 v d p) : ∃ x : Ins, v = x.val ∧ wf64 x.fl := by
  obtain ⟨cs, rfl, hsz⟩ := okWide_struct Try.underlying25 hv
  have hC := cellsIns
  have c3 := cellsInt
  have c22 := cellsVs
  have c23 := cellsIs
  obtain ⟨l⟩ := cs
  match l, hsz.trans hC with
  | [v0, v1, v2, v3, v4, v5, v6], _ =>
    obtain ⟨fuel, hf⟩ := h
    obtain ⟨xs, n, _, hx, _, hlen, hg⟩ := DataW.trod_struct Try.underlying25 hf
    match xs, hlen with
    | [y0, y1, y2, y3, y4, y5, y6], _ =>
      have g0 := hg 0 _ rfl
      have g1 := hg 1 _ rfl
      have g2 := hg 2 _ rfl
      have g3 := hg 3 _ rfl
      have g4 := hg 4 _ rfl
      have g5 := hg 5 _ rfl
      have g6 := hg 6 _ rfl
      simp [Value.cells, c3, c22, c23] at g0 g1 g2 g3 g4 g5 g6
      obtain ⟨k0, rfl, w0⟩ := tr_w Try.underlying3 g0
      obtain ⟨k1, rfl, w1⟩ := tr_w Try.underlying3 g1
      obtain ⟨k2, rfl, w2⟩ := tr_w Try.underlying3 g2
      obtain ⟨k3, rfl, w3⟩ := tr_w Try.underlying3 g3
      obtain ⟨k4, rfl, w4⟩ := tr_w Try.underlying3 g4
      obtain ⟨p5, l5, m5, rfl⟩ := tr_slice Try.underlying22 g5
      obtain ⟨p6, l6, m6, rfl⟩ := tr_slice Try.underlying23 g6
      exact ⟨⟨k0, k1, k2, k3, k4, p5, l5, m5, p6, l6, m6, []⟩, rfl, wf_in w4⟩
end
end Go.Proofs.Ytpjfkmaceaikbaa
