/- An argument that is a module, opened with the bounds of its names and numbers. -/
import Derived.Test.YtmampoakdjjbiaaGreatDoorSpRT
namespace Go.Proofs.YtmampoakdjjbiaaGreatDoor
open Go.RowKit Go.Maps Go.ChangeShapes Go.WideShapes Go.Deep
set_option linter.unusedVariables false
set_option linter.unusedSimpArgs false

def ArgW (a : Arg) : Prop := 0 ≤ a.bits ∧ a.bits < 18446744073709551616
def InsW4 (x : LI) : Prop := (-9223372036854775808 ≤ x.1.n ∧ x.1.n ≤ 9223372036854775807) ∧ ∀ a ∈ x.1.args, ArgW a
theorem wf_i64 {k : Int} (h : (Lit.int .i64 k).wf = true) : -9223372036854775808 ≤ k ∧ k ≤ 9223372036854775807 := by
  have h1 : (decide (IntKind.i64.min ≤ k) && decide (k ≤ IntKind.i64.max)) = true := h
  rw [Bool.and_eq_true, decide_eq_true_eq, decide_eq_true_eq] at h1
  have e1 : IntKind.i64.min = -9223372036854775808 := by decide
  have e2 : IntKind.i64.max = 9223372036854775807 := by decide
  omega
theorem wf_u64 {k : Int} (h : (Lit.int .u64 k).wf = true) : 0 ≤ k ∧ k < 18446744073709551616 := by
  have h1 : (decide (IntKind.u64.min ≤ k) && decide (k ≤ IntKind.u64.max)) = true := h
  rw [Bool.and_eq_true, decide_eq_true_eq, decide_eq_true_eq] at h1
  have e1 : IntKind.u64.min = 0 := by decide
  have e2 : IntKind.u64.max = 18446744073709551615 := by decide
  omega
section
variable {H : Type} {enc : TypeId × Value → H} {W : World} {sp : Nat → Bool} {held : Bool}
theorem tr_str {n : Nat} {c : Value} {y : DataW H × List MemPlace} (h : DataW.trod enc Tryz.prog W 0 sp held n 9 [c] = some y) : ∃ s : ByteArray, c = .string s ∧ s.size + 1 ≤ Rows.uptoBulk y.1 := by
  obtain ⟨s0, h1, h2, _⟩ := DataW.trod_string Tryz.underlying9 h
  refine ⟨s0, (List.cons.inj h1).1, ?_⟩
  rw [h2]
  simp [Rows.uptoBulk]
set_option maxRecDepth 100000 in
theorem open_args4 {n : Nat} {c : Value} {y : DataW H × List MemPlace} (h : DataW.trod enc Tryz.prog W 0 sp held n 37 [c] = some y) :
    ∃ (p : Option Addr) (k : Nat) (xs : List Arg), c = .slice p xs.length k ∧ ListIn argC NoMem W.heap.size W p xs.length k xs ∧ (∀ x ∈ xs, ArgW x) ∧ xs.length ≤ Rows.uptoBulk y.1 := by
  obtain ⟨p, k, xs, e, hl, hp, _, hn⟩ := open_list (α := Arg) (m := 3) (by decide) argC (fun _ => rfl) NoMem ArgW (fun _ => 1) Tryz.underlying37 cellsValue (fun n cs y hlen h2 => by
    obtain ⟨xs, k, _, _, _, hxl, hg⟩ := DataW.trod_struct Tryz.underlying86 h2
    have c3 := cellsInt
    have c22 := cellsU64
    match cs, hlen with
    | [v0, v1, v2], _ =>
      match xs, hxl with
      | [y0, y1, y2], _ =>
        have g0 := hg 0 _ rfl
        have g1 := hg 1 _ rfl
        have g2 := hg 2 _ rfl
        simp [c3, c22] at g0 g1 g2
        obtain ⟨k0, rfl, _⟩ := tr_int g0
        obtain ⟨k1, rfl, w1⟩ := tr_int g1
        obtain ⟨k2, h1, _, w2⟩ := DataW.trod_int Tryz.underlying77 g2
        obtain rfl := (List.cons.inj h1).1
        exact ⟨⟨k0, k1, k2⟩, rfl, trivial, wf_u64 w2, bulk_pos _⟩) h
  exact ⟨p, k, xs, e, hl, hp, hn⟩
set_option maxRecDepth 100000 in
theorem open_code4 {n : Nat} {c : Value} {y : DataW H × List MemPlace} (h : DataW.trod enc Tryz.prog W 0 sp held n 40 [c] = some y) :
    ∃ (p : Option Addr) (k : Nat) (L : List LI), c = .slice p L.length k ∧ ListIn liC InsIn W.heap.size W p L.length k L ∧ (∀ x ∈ L, InsW4 x) ∧ codeZ (L.map insD) ≤ Rows.uptoBulk y.1 := by
  obtain ⟨p, k, xs, e, hl, hp, hz, _⟩ := open_list (α := LI) (m := 7) (by decide) liC (fun _ => rfl) InsIn InsW4 (fun x => insZ (insD x)) Tryz.underlying40 cellsInstr (fun n cs y hlen h2 => by
    obtain ⟨xs, k, _, hx, _, hxl, hg⟩ := DataW.trod_struct Tryz.underlying39 h2
    have c3 := cellsInt
    have c22 := cellsVals
    have c23 := cellsInts
    match cs, hlen with
    | [v0, v1, v2, v3, v4, v5, v6], _ =>
      match xs, hxl with
      | [y0, y1, y2, y3, y4, y5, y6], _ =>
        have g0 := hg 0 _ rfl
        have g1 := hg 1 _ rfl
        have g2 := hg 2 _ rfl
        have g3 := hg 3 _ rfl
        have g4 := hg 4 _ rfl
        have g5 := hg 5 _ rfl
        have g6 := hg 6 _ rfl
        simp [c3, c22, c23] at g0 g1 g2 g3 g4 g5 g6
        obtain ⟨k0, rfl, _⟩ := tr_int g0
        obtain ⟨k1, rfl, w1⟩ := tr_int g1
        obtain ⟨k2, rfl, _⟩ := tr_int g2
        obtain ⟨k3, rfl, w3⟩ := tr_int g3
        obtain ⟨k4, rfl, _⟩ := tr_int g4
        obtain ⟨ap, ac, args, rfl, a1, a2, a3⟩ := open_args4 g5
        obtain ⟨tp, tc, ts, rfl, t1, t2⟩ := open_ints3 g6
        refine ⟨(⟨k0, k1, k2, k3, k4, ap, args.length, ac, tp, ts.length, tc, args⟩, ts), rfl, ⟨a1, t1⟩, ⟨wf_i64 w3, a2⟩, ?_⟩
        show 1 + args.length + ts.length ≤ _
        have e : y.1 = .agg [y0.1, y1.1, y2.1, y3.1, y4.1, y5.1, y6.1] := by have := congrArg Prod.fst hx; simpa using this
        rw [e]
        simp only [Rows.uptoBulk, Rows.uptoBulkAll]
        omega) h
  refine ⟨p, k, xs, e, hl, hp, ?_⟩
  unfold codeZ
  rw [List.map_map]
  exact hz
def BlkW4 (c : LB) : Prop := ∀ x ∈ c.code, InsW4 x
def FnW4 (f : LFn) : Prop := ∀ c ∈ f.bs, BlkW4 c
set_option maxRecDepth 100000 in
theorem open_blks4 {n : Nat} {c : Value} {y : DataW H × List MemPlace} (h : DataW.trod enc Tryz.prog W 0 sp held n 43 [c] = some y) :
    ∃ (p : Option Addr) (k : Nat) (L : List LB), c = .slice p L.length k ∧ ListIn blkC BlkIn W.heap.size W p L.length k L ∧ (∀ x ∈ L, BlkW4 x) ∧ blksZ (L.map blkD) ≤ Rows.uptoBulk y.1 := by
  obtain ⟨p, k, xs, e, hl, hp, hz, _⟩ := open_list (α := LB) (m := 1) (by decide) blkC (fun _ => rfl) BlkIn BlkW4 (fun x => 1 + codeZ (blkD x)) Tryz.underlying43 cellsBlock (fun n cs y hlen h2 => by
    obtain ⟨xs, k, _, hx, _, hxl, hg⟩ := DataW.trod_struct Tryz.underlying42 h2
    have cc := cellsCode
    match cs, hlen with
    | [v0], _ =>
      match xs, hxl with
      | [y0], _ =>
        have g0 := hg 0 _ rfl
        simp [cc] at g0
        obtain ⟨p, c, L, rfl, l1, l2, l3⟩ := open_code4 g0
        refine ⟨⟨p, L.length, c, L⟩, rfl, l1, l2, ?_⟩
        show 1 + codeZ (L.map insD) ≤ _
        have e : y.1 = .agg [y0.1] := by have := congrArg Prod.fst hx; simpa using this
        rw [e]
        simp only [Rows.uptoBulk, Rows.uptoBulkAll]
        omega) h
  refine ⟨p, k, xs, e, hl, hp, ?_⟩
  unfold blksZ
  rw [List.map_map]
  exact hz
set_option maxRecDepth 100000 in
theorem open_fn_cells4 {n : Nat} {cs : List Value} {y : DataW H × List MemPlace} (hlen : cs.length = 4) (h2 : DataW.trod enc Tryz.prog W 0 sp held n 45 cs = some y) : ∃ f : LFn, cs = fnC f ∧ FnIn W.heap.size W f ∧ FnW4 f ∧ fnZ (fnD f) + f.nm.size ≤ Rows.uptoBulk y.1 := by
  obtain ⟨xs, k, _, hx, _, hxl, hg⟩ := DataW.trod_struct Tryz.underlying45 h2
  have c3 := cellsInt
  have c22 := cellsBlocks
  have c23 := cellsInts
  have c9 := cellsString
  match cs, hlen with
  | [v0, v1, v2, v3], _ =>
    match xs, hxl with
    | [y0, y1, y2, y3], _ =>
      have g0 := hg 0 _ rfl
      have g1 := hg 1 _ rfl
      have g2 := hg 2 _ rfl
      have g3 := hg 3 _ rfl
      simp [c3, c22, c23, c9] at g0 g1 g2 g3
      obtain ⟨s0, rfl, hs0⟩ := tr_str g0
      obtain ⟨k2, rfl, _⟩ := tr_int g2
      obtain ⟨p1, c1, us, rfl, u1, u2⟩ := open_ints3 g1
      obtain ⟨p2, c2, L, rfl, l1, l2, l3⟩ := open_blks4 g3
      refine ⟨⟨s0, p1, us.length, c1, us, k2, p2, L.length, c2, L⟩, rfl, ⟨u1, l1⟩, l2, ?_⟩
      show 1 + us.length + blksZ (L.map blkD) + s0.size ≤ _
      have e : y.1 = .agg [y0.1, y1.1, y2.1, y3.1] := by have := congrArg Prod.fst hx; simpa using this
      rw [e]
      simp only [Rows.uptoBulk, Rows.uptoBulkAll]
      omega
set_option maxRecDepth 100000 in
theorem open_ext_cells4 {n : Nat} {cs : List Value} {y : DataW H × List MemPlace} (hlen : cs.length = 3) (h2 : DataW.trod enc Tryz.prog W 0 sp held n 47 cs = some y) : ∃ f : LExt, cs = extC f ∧ ExtIn W.heap.size W f ∧ extZ (extD f) + f.nm.size ≤ Rows.uptoBulk y.1 := by
  obtain ⟨xs, k, _, hx, _, hxl, hg⟩ := DataW.trod_struct Tryz.underlying47 h2
  have c3 := cellsInt
  have c23 := cellsInts
  have c9 := cellsString
  match cs, hlen with
  | [v0, v1, v2], _ =>
    match xs, hxl with
    | [y0, y1, y2], _ =>
      have g0 := hg 0 _ rfl
      have g1 := hg 1 _ rfl
      have g2 := hg 2 _ rfl
      simp [c3, c23, c9] at g0 g1 g2
      obtain ⟨s0, rfl, hs0⟩ := tr_str g0
      obtain ⟨k2, rfl, _⟩ := tr_int g2
      obtain ⟨p1, c1, us, rfl, u1, u2⟩ := open_ints3 g1
      refine ⟨⟨s0, p1, us.length, c1, us, k2⟩, rfl, u1, ?_⟩
      show 1 + us.length + s0.size ≤ _
      have e : y.1 = .agg [y0.1, y1.1, y2.1] := by have := congrArg Prod.fst hx; simpa using this
      rw [e]
      simp only [Rows.uptoBulk, Rows.uptoBulkAll]
      omega
theorem sum_add {α : Type} (f g : α → Nat) (l : List α) : (l.map fun x => f x + g x).sum = (l.map f).sum + (l.map g).sum := by
  induction l with
  | nil => rfl
  | cons x l ih => simp only [List.map_cons, List.sum_cons, ih]; omega
set_option maxRecDepth 100000 in
theorem open_mod4 {r : Reach} {b0 : Nat} {v : Value} {d : DataW H} {p : List MemPlace} (hv : Value.okWide Tryz.prog W r b0 26 v) (h : DataW.Trod enc Tryz.prog W 0 sp held 26 v d p) (hb : Rows.uptoBulk d ≤ 1048576) :
    ∃ m : LMod, v = .agg (modC m).toArray ∧ ModIn W.heap.size W m ∧ MWf m ∧ NumOk m := by
  obtain ⟨cs, rfl, hsz⟩ := okWide_struct Tryz.underlying26 hv
  obtain ⟨fuel, hf⟩ := h
  obtain ⟨ls⟩ := cs
  obtain ⟨xs, k, _, hx, _, hxl, hg⟩ := DataW.trod_struct Tryz.underlying26 hf
  have cV := cellsVars
  have cX := cellsExterns
  have cF := cellsFuncs
  match ls, (hsz.trans cellsModule : ls.length = 3) with
  | [v0, v1, v2], _ =>
    match xs, hxl with
    | [y0, y1, y2], _ =>
      have g0 := hg 0 _ rfl
      have g1 := hg 1 _ rfl
      have g2 := hg 2 _ rfl
      simp [Value.cells, cV, cX, cF] at g0 g1 g2
      obtain ⟨p0, k0, vs, rfl, i0, q0, z0, l0⟩ := open_list (α := PVar) (m := 2) (by decide) varC (fun _ => rfl) NoMem (fun v => v.size ≤ 9223372036854775807) (fun v => 1 + v.nm.size) Tryz.underlying22 cellsVar (fun n cs y hlen h2 => by
        obtain ⟨xs, k, _, hx, _, hxl, hg⟩ := DataW.trod_struct Tryz.underlying35 h2
        have c3 := cellsInt
        have c9 := cellsString
        match cs, hlen with
        | [v0, v1], _ =>
          match xs, hxl with
          | [y0, y1], _ =>
            have g0 := hg 0 _ rfl
            have g1 := hg 1 _ rfl
            simp [c3, c9] at g0 g1
            obtain ⟨s0, rfl, hs0⟩ := tr_str g0
            obtain ⟨k2, rfl, w2⟩ := tr_int g1
            refine ⟨⟨s0, k2⟩, rfl, trivial, (wf_i64 w2).2, ?_⟩
            have e : y.1 = .agg [y0.1, y1.1] := by have := congrArg Prod.fst hx; simpa using this
            rw [e]
            simp only [Rows.uptoBulk, Rows.uptoBulkAll]
            omega) g0
      obtain ⟨p1, k1, es, rfl, i1, _, z1, _⟩ := open_list (α := LExt) (m := 3) (by decide) extC (fun _ => rfl) ExtIn (fun _ => True) (fun x => extZ (extD x) + x.nm.size) Tryz.underlying23 cellsExtern (fun n cs y hlen h2 => by
        obtain ⟨f, hc, h1, h3⟩ := open_ext_cells4 hlen h2
        exact ⟨f, hc, h1, trivial, h3⟩) g1
      obtain ⟨p2, k2, fs, rfl, i2, w2, z2, _⟩ := open_list (α := LFn) (m := 4) (by decide) fnC (fun _ => rfl) FnIn FnW4 (fun x => fnZ (fnD x) + x.nm.size) Tryz.underlying24 cellsFunc (fun n cs y hlen h2 => open_fn_cells4 hlen h2) g2
      have e : d = .agg [y0.1, y1.1, y2.1] := by have := congrArg Prod.fst hx; simpa using this
      rw [e] at hb
      simp only [Rows.uptoBulk, Rows.uptoBulkAll] at hb
      have mv : ∀ v ∈ vs, 1 + v.nm.size ≤ _ := fun v hv => sum_mem (fun v : PVar => 1 + v.nm.size) hv
      have mx : ∀ x ∈ es, extZ (extD x) + x.nm.size ≤ _ := fun x hx => sum_mem (fun x : LExt => extZ (extD x) + x.nm.size) hx
      have mf : ∀ x ∈ fs, fnZ (fnD x) + x.nm.size ≤ _ := fun x hx => sum_mem (fun x : LFn => fnZ (fnD x) + x.nm.size) hx
      rw [sum_add (fun _ : PVar => 1)] at z0
      rw [sum_add (fun x : LExt => extZ (extD x))] at z1
      rw [sum_add (fun x : LFn => fnZ (fnD x))] at z2
      refine ⟨⟨p0, vs.length, k0, vs, p1, es.length, k1, es, p2, fs.length, k2, fs⟩, rfl, ⟨i0, i1, i2⟩, ⟨fun v hv => ?_, fun x hx => ?_, fun f hf => ?_, fun f hf c hc x hx => (w2 f hf c hc x hx).1, ?_⟩, ⟨q0, fun f hf c hc x hx => ?_⟩⟩
      · have := mv v hv
        rw [sum_add (fun _ : PVar => 1)] at this
        omega
      · have := mx x hx
        rw [sum_add (fun x : LExt => extZ (extD x))] at this
        omega
      · have := mf f hf
        rw [sum_add (fun x : LFn => fnZ (fnD x))] at this
        omega
      · show vs.length + ((es.map extD).map extZ).sum + ((fs.map fnD).map fnZ).sum ≤ _
        rw [List.map_map, List.map_map]
        show vs.length + (es.map fun x => extZ (extD x)).sum + (fs.map fun x => fnZ (fnD x)).sum ≤ _
        omega
      · have h1 := w2 f hf c hc x hx
        exact ⟨h1.1.2, fun a ha => h1.2 a ha⟩
end
theorem MWf.same {m y : LMod} (e : modD y = modD m) (h : MWf m) : MWf y where
  vs := by have := modD_vs e; rw [this]; exact h.vs
  xs := fun x hx => by
    have h1 := modD_xs e
    have h2 : extD x ∈ m.xs.map extD := by rw [← h1]; exact List.mem_map_of_mem hx
    obtain ⟨x', hx', e'⟩ := List.mem_map.1 h2
    have h3 := h.xs x' hx'
    have e3 : x'.nm = x.nm := congrArg PExt.nm e'
    rw [← e3]
    exact h3
  fs := fun x hx => by
    have h1 := modD_fs e
    have h2 : fnD x ∈ m.fs.map fnD := by rw [← h1]; exact List.mem_map_of_mem hx
    obtain ⟨x', hx', e'⟩ := List.mem_map.1 h2
    have h3 := h.fs x' hx'
    have e3 : x'.nm = x.nm := congrArg PFn.nm e'
    rw [← e3]
    exact h3
  ns := fun f hf c hc x hx => by
    have h1 := modD_fs e
    have h2 : fnD f ∈ m.fs.map fnD := by rw [← h1]; exact List.mem_map_of_mem hf
    obtain ⟨f', hf', e'⟩ := List.mem_map.1 h2
    have hb : blkD c ∈ (fnD f').bs := by rw [e']; exact List.mem_map_of_mem hc
    obtain ⟨c', hc', ec⟩ := List.mem_map.1 hb
    have hi : insD x ∈ blkD c' := by rw [ec]; exact List.mem_map_of_mem hx
    obtain ⟨x', hx', ex⟩ := List.mem_map.1 hi
    have h3 := h.ns f' hf' c' hc' x' hx'
    have e3 : x'.1.n = x.1.n := congrArg PIns.n ex
    rw [← e3]
    exact h3
  z := by rw [e]; exact h.z
theorem NumOk.same {m y : LMod} (e : modD y = modD m) (h : NumOk m) : NumOk y where
  vs := by have := modD_vs e; rw [this]; exact h.vs
  is := fun f hf c hc x hx => by
    have h1 := modD_fs e
    have h2 : fnD f ∈ m.fs.map fnD := by rw [← h1]; exact List.mem_map_of_mem hf
    obtain ⟨f', hf', e'⟩ := List.mem_map.1 h2
    have hb : blkD c ∈ (fnD f').bs := by rw [e']; exact List.mem_map_of_mem hc
    obtain ⟨c', hc', ec⟩ := List.mem_map.1 hb
    have hi : insD x ∈ blkD c' := by rw [ec]; exact List.mem_map_of_mem hx
    obtain ⟨x', hx', ex⟩ := List.mem_map.1 hi
    have h3 := h.is f' hf' c' hc' x' hx'
    rw [← ex]
    exact h3
end Go.Proofs.YtmampoakdjjbiaaGreatDoor
