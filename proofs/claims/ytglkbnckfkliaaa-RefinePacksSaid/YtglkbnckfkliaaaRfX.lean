/- The laws' arguments, opened: values, bytes, rows of bytes, outcomes. -/
import Derived.Test.YtglkbnckfkliaaaRfM
import Derived.OpenShut
import Derived.WideShapes
namespace Go.Proofs.Ytglkbnckfkliaaa
open Go.RowKit Go.Maps Go.ChangeShapes Go.WideShapes Go.Deep
set_option linter.unusedVariables false
set_option linter.unusedSimpArgs false
set_option maxRecDepth 100000

def wf64 (k : Int) : Prop := -9223372036854775808 ≤ k ∧ k ≤ 9223372036854775807
theorem bulk_slice2 {H : Type} (e s : List (DataW H)) : Rows.uptoBulkAll e + 1 ≤ Rows.uptoBulk (.slice e s) := by simp only [Rows.uptoBulk]; omega
instance : Inhabited Vl := ⟨p0⟩
instance : Inhabited LBy := ⟨⟨none, 0, 0, []⟩⟩
instance : Inhabited LEv := ⟨⟨0, none, 0, 0, [], none, 0, 0, []⟩⟩
theorem wf_in {k : Int} (h : (Lit.int .i64 k).wf = true) : wf64 k := by
  simp only [Lit.wf, Bool.and_eq_true, decide_eq_true_eq] at h
  have h1 := h.1
  have h2 := h.2
  simp [IntKind.min, IntKind.max, IntKind.bits, IntKind.signed] at h1 h2
  exact ⟨by omega, by omega⟩
theorem wf_u64 {k : Int} (h : (Lit.int .u64 k).wf = true) : 0 ≤ k ∧ k ≤ 18446744073709551615 := by
  simp only [Lit.wf, Bool.and_eq_true, decide_eq_true_eq] at h
  have h1 := h.1
  have h2 := h.2
  simp [IntKind.min, IntKind.max, IntKind.bits, IntKind.signed] at h1 h2
  exact ⟨by omega, by omega⟩
theorem wf_u8 {k : Int} (h : (Lit.int .u8 k).wf = true) : 0 ≤ k ∧ k ≤ 255 := by
  simp only [Lit.wf, Bool.and_eq_true, decide_eq_true_eq] at h
  have h1 := h.1
  have h2 := h.2
  simp [IntKind.min, IntKind.max, IntKind.bits, IntKind.signed] at h1 h2
  exact ⟨by omega, by omega⟩
section
variable {H : Type} {enc : TypeId × Value → H} {W : World} {sp : Nat → Bool} {held : Bool}
theorem tr_w {t : TypeId} {q : IntKind} (ht : Try.prog.underlying t = some (.int q)) {n : Nat} {c : Value} {y : DataW H × List MemPlace} (h : DataW.trod enc Try.prog W 0 sp held n t [c] = some y) : ∃ k : Int, c = .int q k ∧ (Lit.int q k).wf = true := by
  obtain ⟨k, h1, _, h2⟩ := DataW.trod_int ht h
  exact ⟨k, (List.cons.inj h1).1, h2⟩
theorem open_i {r : Reach} {b0 : Nat} {v : Value} {d : DataW H} {p : List MemPlace} (hv : Value.okWide Try.prog W r b0 3 v) (h : DataW.Trod enc Try.prog W 0 sp held 3 v d p) : ∃ a : Int, v = .int .i64 a ∧ wf64 a := by
  obtain ⟨a, rfl, _, _, hw⟩ := open_int Try.underlying3 hv h
  exact ⟨a, rfl, wf_in hw⟩
theorem cellsI64 : Try.prog.cellsOf 2 = 1 := by kernel_rfl
theorem cellsU8 : Try.prog.cellsOf 5 = 1 := by kernel_rfl
theorem cellsVal4 : Try.prog.cellsOf 24 = 4 := by kernel_rfl
theorem cellsByte5 : Try.prog.cellsOf 26 = 5 := by kernel_rfl
/-- What is known of a value. -/
def VlOk (x : Vl) : Prop := x.ok ∧ wf64 x.bk ∧ wf64 x.o ∧ wf64 x.k
def ByOk (y : By) : Prop := y.ok ∧ wf64 y.bk ∧ wf64 y.o ∧ wf64 y.k ∧ wf64 y.i
theorem val_cells {n : Nat} {cs : List Value} {y : DataW H × List MemPlace} (hlen : cs.length = 4) (h : DataW.trod enc Try.prog W 0 sp held n 24 cs = some y) : ∃ x : Vl, cs = vlC x ∧ VlOk x := by
  obtain ⟨xs, k, _, hx, _, hxl, hg⟩ := DataW.trod_struct Try.underlying24 h
  have c3 := cellsInt
  have c4 := cellsU64
  have c5 := cellsI64
  match cs, hlen with
  | [v0, v1, v2, v3], _ =>
    match xs, hxl with
    | [y0, y1, y2, y3], _ =>
      have g0 := hg 0 _ rfl
      have g1 := hg 1 _ rfl
      have g2 := hg 2 _ rfl
      have g3 := hg 3 _ rfl
      simp [c3, c4, c5] at g0 g1 g2 g3
      obtain ⟨k0, rfl, w0⟩ := tr_w Try.underlying3 g0
      obtain ⟨k1, rfl, w1⟩ := tr_w Try.underlying22 g1
      obtain ⟨k2, rfl, w2⟩ := tr_w Try.underlying3 g2
      obtain ⟨k3, rfl, w3⟩ := tr_w Try.underlying2 g3
      exact ⟨⟨k0, k1, k2, k3⟩, rfl, wf_u64 w1, wf_in w2, wf_in w3, wf_in w0⟩
theorem val_shape {r : Reach} {b0 : Nat} {v : Value} {d : DataW H} {p : List MemPlace} (hv : Value.okWide Try.prog W r b0 24 v) (h : DataW.Trod enc Try.prog W 0 sp held 24 v d p) : ∃ x : Vl, v = x.val ∧ VlOk x := by
  obtain ⟨cs, rfl, hsz⟩ := okWide_struct Try.underlying24 hv
  obtain ⟨fuel, hf⟩ := h
  obtain ⟨x, e, ho⟩ := val_cells (cs := cs.toList) (by simpa using hsz.trans cellsVal4) hf
  refine ⟨x, ?_, ho⟩
  have : cs = (vlC x).toArray := by rw [← e]
  rw [this]; rfl
theorem by_cells {n : Nat} {cs : List Value} {y : DataW H × List MemPlace} (hlen : cs.length = 5) (h : DataW.trod enc Try.prog W 0 sp held n 26 cs = some y) : ∃ x : By, cs = byC x ∧ ByOk x := by
  obtain ⟨xs, k, _, hx, _, hxl, hg⟩ := DataW.trod_struct Try.underlying26 h
  have c3 := cellsInt
  have c4 := cellsU8
  have c5 := cellsI64
  match cs, hlen with
  | [v0, v1, v2, v3, v4], _ =>
    match xs, hxl with
    | [y0, y1, y2, y3, y4], _ =>
      have g0 := hg 0 _ rfl
      have g1 := hg 1 _ rfl
      have g2 := hg 2 _ rfl
      have g3 := hg 3 _ rfl
      have g4 := hg 4 _ rfl
      simp [c3, c4, c5] at g0 g1 g2 g3 g4
      obtain ⟨k0, rfl, w0⟩ := tr_w Try.underlying3 g0
      obtain ⟨k1, rfl, w1⟩ := tr_w Try.underlying5 g1
      obtain ⟨k2, rfl, w2⟩ := tr_w Try.underlying3 g2
      obtain ⟨k3, rfl, w3⟩ := tr_w Try.underlying2 g3
      obtain ⟨k4, rfl, w4⟩ := tr_w Try.underlying3 g4
      exact ⟨⟨k0, k1, k2, k3, k4⟩, rfl, wf_u8 w1, wf_in w2, wf_in w3, wf_in w0, wf_in w4⟩
instance : Inhabited By := ⟨q0⟩
theorem bys_shape {r : Reach} {b0 : Nat} {v : Value} {d : DataW H} {p : List MemPlace} (hk : Value.okWide Try.prog W r b0 38 v) (h : DataW.Trod enc Try.prog W 0 sp held 38 v d p) : ∃ (q : Option Addr) (c : Nat) (l : List By), v = .slice q l.length c ∧ BysIn W.heap.size W q l.length c l ∧ ∀ y ∈ l, ByOk y := by
  obtain ⟨a0, n0, c0, rfl⟩ := okWide_slice Try.underlying38 hk
  obtain ⟨fuel, hf⟩ := h
  rw [show (Value.slice a0 n0 c0).cells = #[Value.slice a0 n0 c0] from rfl] at hf
  obtain ⟨q, c, xs, e, hl, hp, _, _⟩ := open_list (α := By) (m := 5) (by decide) byC byC_len NoMem ByOk (fun _ => 1) Try.underlying38 cellsByte5 (fun n cs y hlen h2 => by
    obtain ⟨x, e, ho⟩ := by_cells hlen h2
    exact ⟨x, e, trivial, ho, bulk_pos _⟩) hf
  exact ⟨q, c, xs, e, hl, hp⟩
theorem open_list2 {α : Type} [Inhabited α] {t e : TypeId} {m : Nat} (hm : 0 < m) (cel : α → List Value) (hc : ∀ x, (cel x).length = m) (E : Nat → World → α → Prop) (P : α → Prop) (z : α → Nat) (ht : Try.prog.underlying t = some (.slice e)) (hce : Try.prog.cellsOf e = m)
    (hel : ∀ (n : Nat) (cs : List Value) (y : DataW H × List MemPlace), cs.length = m → DataW.trod enc Try.prog W 0 sp held n e cs = some y → ∃ x : α, cs = cel x ∧ E W.heap.size W x ∧ P x ∧ z x ≤ Rows.uptoBulk y.1)
    {n : Nat} {c : Value} {y : DataW H × List MemPlace} (h : DataW.trod enc Try.prog W 0 sp held n t [c] = some y) :
    ∃ (p : Option Addr) (k : Nat) (xs : List α), c = .slice p xs.length k ∧ ListIn cel E W.heap.size W p xs.length k xs ∧ (∀ x ∈ xs, P x) ∧ (xs.map z).sum + 1 ≤ Rows.uptoBulk y.1 ∧ xs.length + 1 ≤ Rows.uptoBulk y.1 := by
  rcases open_slice ht h with ⟨hcc, hx⟩ | ⟨a, len, cap, k, n', D, Pl, hcc, hb, hl, hmm, hk, hx, hi⟩
  · exact ⟨none, 0, [], (List.cons.inj hcc).1, ⟨rfl, Nat.le_refl _, Nat.zero_le _, fun j u hu => by simp at hu, fun x hx => absurd hx (by simp)⟩, fun x hx => absurd hx (by simp), bulk_pos _, bulk_pos _⟩
  · have lm : len ≤ k := by rw [hk]; split <;> omega
    rw [hce] at hi
    obtain ⟨f, hf⟩ := choose_lt (α := α) (p := fun i x => (a.block < W.heap.size ∧ ∀ r, r < m → W.cell? (a.add (i * m + r)) = (cel x)[r]?) ∧ E W.heap.size W x ∧ P x ∧ z x ≤ Rows.uptoBulk (D i)) (n := len) (fun i hi2 => by
      obtain ⟨cs', h1, h2⟩ := hi i (by omega)
      obtain ⟨_, hlen, hcell⟩ := World.cells?_some h1
      obtain ⟨x, hx, hE, hP, hz⟩ := hel _ cs' _ hlen h2
      refine ⟨x, ⟨?_, ?_⟩, hE, hP, hz⟩
      · have h0 := hcell 0 (by omega)
        rw [List.getElem?_eq_getElem (by omega)] at h0
        have := block_lt h0
        rw [add_block, add_block] at this
        exact this
      · rw [← hx]
        exact cellAt_of (fun j hj => hcell j (by omega)))
    refine ⟨some a, cap, (List.range len).map f, by simp [(List.cons.inj hcc).1], ⟨rfl, by simpa using hl, hmm, rowAt_of hc hm (fun i hi2 => ?_), fun x hx2 => ?_⟩, fun x hx2 => ?_, ?_, ?_⟩
    · have hi3 : i < len := by simpa using hi2
      exact ⟨a, rfl, (hf i hi3).1.1, by simpa using (hf i hi3).1.2⟩
    · obtain ⟨i, hi2, rfl⟩ := List.mem_map.1 hx2
      exact (hf i (List.mem_range.1 hi2)).2.1
    · obtain ⟨i, hi2, rfl⟩ := List.mem_map.1 hx2
      exact (hf i (List.mem_range.1 hi2)).2.2.1
    · subst hx
      have h1 := bulk_sum D (fun i => z (f i)) len (fun i hi2 => (hf i hi2).2.2.2)
      have h2 := bulk_slice2 ((List.range len).map D) ((List.range (k - len)).map fun j => D (len + j))
      rw [sum_range]
      exact Nat.le_trans (Nat.succ_le_succ h1) h2
    · subst hx
      have h1 := bulk_sum D (fun _ => 1) len (fun i _ => bulk_pos _)
      have h2 := bulk_slice2 ((List.range len).map D) ((List.range (k - len)).map fun j => D (len + j))
      have e := sum_ones len
      simp only [List.length_map, List.length_range]
      omega
theorem by_shape {r : Reach} {b0 : Nat} {v : Value} {d : DataW H} {p : List MemPlace} (hv : Value.okWide Try.prog W r b0 26 v) (h : DataW.Trod enc Try.prog W 0 sp held 26 v d p) : ∃ x : By, v = x.val ∧ ByOk x := by
  obtain ⟨cs, rfl, hsz⟩ := okWide_struct Try.underlying26 hv
  obtain ⟨fuel, hf⟩ := h
  obtain ⟨x, e, ho⟩ := by_cells (cs := cs.toList) (by simpa using hsz.trans cellsByte5) hf
  refine ⟨x, ?_, ho⟩
  have : cs = (byC x).toArray := by rw [← e]
  rw [this]; rfl
theorem cellsLB : Try.prog.cellsOf 38 = 1 := by kernel_rfl
theorem cellsLV : Try.prog.cellsOf 43 = 1 := by kernel_rfl
theorem cellsLL : Try.prog.cellsOf 28 = 1 := by kernel_rfl
theorem cellsLE : Try.prog.cellsOf 27 = 1 := by kernel_rfl
theorem cellsOut : Try.prog.cellsOf 30 = 8 := by kernel_rfl
theorem open_vals {n : Nat} {c : Value} {y : DataW H × List MemPlace} (h : DataW.trod enc Try.prog W 0 sp held n 43 [c] = some y) :
    ∃ (p : Option Addr) (k : Nat) (l : List Vl), c = .slice p l.length k ∧ VsIn W.heap.size W p l.length k l ∧ l.length + 1 ≤ Rows.uptoBulk y.1 := by
  obtain ⟨p, k, xs, e, hl, _, _, hn⟩ := open_list2 (α := Vl) (m := 4) (by decide) vlC (fun _ => rfl) NoMem (fun _ => True) (fun _ => 1) Try.underlying43 cellsVal4 (fun n cs y hlen h2 => by
    obtain ⟨x, e, ho⟩ := val_cells hlen h2
    exact ⟨x, e, trivial, trivial, bulk_pos _⟩) h
  exact ⟨p, k, xs, e, hl, hn⟩
theorem open_bys {n : Nat} {c : Value} {y : DataW H × List MemPlace} (h : DataW.trod enc Try.prog W 0 sp held n 38 [c] = some y) :
    ∃ x : LBy, c = x.val ∧ LByIn W.heap.size W x ∧ x.l.length + 1 ≤ Rows.uptoBulk y.1 := by
  obtain ⟨p, k, xs, e, hl, _, _, hn⟩ := open_list2 (α := By) (m := 5) (by decide) byC byC_len NoMem (fun _ => True) (fun _ => 1) Try.underlying38 cellsByte5 (fun n cs y hlen h2 => by
    obtain ⟨x, e, ho⟩ := by_cells hlen h2
    exact ⟨x, e, trivial, trivial, bulk_pos _⟩) h
  exact ⟨⟨p, xs.length, k, xs⟩, e, hl, hn⟩
theorem open_lbs {n : Nat} {c : Value} {y : DataW H × List MemPlace} (h : DataW.trod enc Try.prog W 0 sp held n 28 [c] = some y) :
    ∃ (p : Option Addr) (k : Nat) (l : List LBy), c = .slice p l.length k ∧ LLIn W.heap.size W p l.length k l ∧ zL l + 1 ≤ Rows.uptoBulk y.1 := by
  obtain ⟨p, k, xs, e, hl, _, hz, _⟩ := open_list2 (α := LBy) (m := 1) (by decide) lbC (fun _ => rfl) LByIn (fun _ => True) (fun x => x.l.length + 1) Try.underlying28 cellsLB (fun n cs y hlen h2 => by
    match cs, hlen with
    | [v0], _ =>
      obtain ⟨x, rfl, hx, hn⟩ := open_bys h2
      exact ⟨x, rfl, hx, trivial, hn⟩) h
  exact ⟨p, k, xs, e, hl, hz⟩
theorem cellsEv : Try.prog.cellsOf 45 = 3 := by kernel_rfl
theorem open_evs {n : Nat} {c : Value} {y : DataW H × List MemPlace} (h : DataW.trod enc Try.prog W 0 sp held n 27 [c] = some y) :
    ∃ (p : Option Addr) (k : Nat) (l : List LEv), c = .slice p l.length k ∧ EvsIn W.heap.size W p l.length k l ∧ zS l + 1 ≤ Rows.uptoBulk y.1 := by
  obtain ⟨p, k, xs, e, hl, _, hz, _⟩ := open_list2 (α := LEv) (m := 3) (by decide) evC (fun _ => rfl) EvIn (fun _ => True) zE Try.underlying27 cellsEv (fun n cs y hlen h2 => by
    obtain ⟨xs, k, _, hx, _, hxl, hg⟩ := DataW.trod_struct Try.underlying45 h2
    have c3 := cellsInt
    have c22 := cellsLV
    have c23 := cellsLL
    match cs, hlen with
    | [v0, v1, v2], _ =>
      match xs, hxl with
      | [y0, y1, y2], _ =>
        have g0 := hg 0 _ rfl
        have g1 := hg 1 _ rfl
        have g2 := hg 2 _ rfl
        simp [c3, c22, c23] at g0 g1 g2
        obtain ⟨k0, rfl, _⟩ := tr_w Try.underlying3 g0
        obtain ⟨ap, ac, args, rfl, a1, a2⟩ := open_vals g1
        obtain ⟨vp, vc, vars, rfl, t1, t2⟩ := open_lbs g2
        refine ⟨⟨k0, ap, args.length, ac, args, vp, vars.length, vc, vars⟩, rfl, ⟨a1, t1⟩, trivial, ?_⟩
        show args.length + 1 + zL vars ≤ _
        have e : y.1 = .agg [y0.1, y1.1, y2.1] := by have := congrArg Prod.fst hx; simpa using this
        rw [e]
        simp only [Rows.uptoBulk, Rows.uptoBulkAll]
        omega) h
  exact ⟨p, k, xs, e, hl, hz⟩
theorem out_shape {r : Reach} {b0 : Nat} {v : Value} {d : DataW H} {p : List MemPlace} (hv : Value.okWide Try.prog W r b0 30 v) (h : DataW.Trod enc Try.prog W 0 sp held 30 v d p) : ∃ o : LOut, v = o.val ∧ OutIn W.heap.size W o ∧ zS o.evs + zL o.vars ≤ Rows.uptoBulk d := by
  obtain ⟨cs, rfl, hsz⟩ := okWide_struct Try.underlying30 hv
  obtain ⟨fuel, hf⟩ := h
  obtain ⟨ls⟩ := cs
  obtain ⟨xs, k, _, hx, _, hxl, hg⟩ := DataW.trod_struct Try.underlying30 hf
  have c3 := cellsInt
  have cV := cellsVal4
  have cE := cellsLE
  have cL := cellsLL
  match ls, (hsz.trans cellsOut : ls.length = 8) with
  | [v0, v1, v2, v3, v4, v5, v6, v7], _ =>
    match xs, hxl with
    | [y0, y1, y2, y3, y4], _ =>
      have g0 := hg 0 _ rfl
      have g1 := hg 1 _ rfl
      have g2 := hg 2 _ rfl
      have g3 := hg 3 _ rfl
      have g4 := hg 4 _ rfl
      simp [Value.cells, c3, cV, cE, cL] at g0 g1 g2 g3 g4
      obtain ⟨k0, rfl, _⟩ := tr_w Try.underlying3 g0
      obtain ⟨x, ex, _⟩ := val_cells (by rfl) g1
      obtain ⟨ep, ec, evs, rfl, i1, z1⟩ := open_evs g2
      obtain ⟨vp, vc, vars, rfl, i2, z2⟩ := open_lbs g3
      obtain ⟨k4, rfl, _⟩ := tr_w Try.underlying3 g4
      unfold vlC at ex
      injection ex with e1 ex
      injection ex with e2 ex
      injection ex with e3 ex
      injection ex with e4 ex
      subst e1 e2 e3 e4
      refine ⟨⟨k0, x, ep, evs.length, ec, evs, vp, vars.length, vc, vars, k4⟩, rfl, ⟨i1, i2⟩, ?_⟩
      show zS evs + zL vars ≤ _
      have e : d = .agg [y0.1, y1.1, y2.1, y3.1, y4.1] := by have := congrArg Prod.fst hx; simpa using this
      rw [e]
      simp only [Rows.uptoBulk, Rows.uptoBulkAll]
      omega
end
end Go.Proofs.Ytglkbnckfkliaaa
