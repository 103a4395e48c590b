/- An argument that is a function or a module, opened. -/
import Derived.Test.YtpfeiolmkbibiaaOwnE
namespace Go.Proofs.Ytpfeiolmkbibiaa
open Go.RowKit Go.Maps Go.ChangeShapes Go.WideShapes Go.Deep
set_option linter.unusedVariables false
set_option linter.unusedSimpArgs false

theorem cellsVar : Try.prog.cellsOf 73 = 2 := by kernel_rfl
theorem cellsExtern : Try.prog.cellsOf 70 = 3 := by kernel_rfl
theorem cellsModule : Try.prog.cellsOf 34 = 3 := by kernel_rfl
theorem cellsVars : Try.prog.cellsOf 30 = 1 := by kernel_rfl
theorem cellsExterns : Try.prog.cellsOf 31 = 1 := by kernel_rfl
theorem cellsFuncs : Try.prog.cellsOf 32 = 1 := by kernel_rfl
def wfI (n : Int) : Prop := (Lit.int .i64 n).wf = true
def InsWf (x : LI) : Prop := wfI x.1.reg ∧ ∀ a ∈ x.1.args, wfI a.n
def BlkWf (c : LB) : Prop := ∀ x ∈ c.code, InsWf x
def FnWf (f : LFn) : Prop := ∀ c ∈ f.bs, BlkWf c
instance : Inhabited LI := ⟨(default, [])⟩
instance : Inhabited LB := ⟨⟨none, 0, 0, []⟩⟩
instance : Inhabited LFn := ⟨⟨⟨#[]⟩, none, 0, 0, [], 0, none, 0, 0, []⟩⟩
instance : Inhabited LExt := ⟨⟨⟨#[]⟩, none, 0, 0, [], 0⟩⟩
instance : Inhabited PVar := ⟨⟨⟨#[]⟩, 0⟩⟩
theorem cellAt_of {w : World} {a : Addr} {i m : Nat} {cs : List Value} (h : ∀ j (hj : j < m), w.cell? ((a.add (i * m)).add j) = cs[j]?) : ∀ r, r < m → w.cell? (a.add (i * m + r)) = cs[r]? := by
  intro r hr
  have h1 := h r hr
  have e : (a.add (i * m)).add r = a.add (i * m + r) := by
    by_cases h0 : r = 0
    · subst h0; rw [add_zero, Nat.add_zero]
    · rw [add_pos _ r h0, add_add a _ r h0]
  rw [e] at h1
  exact h1
theorem insIn_of {B : Nat} {W : World} {d : Ins} {ts : List Int} (ha : ArgsAt B W d) (ht : IntsAt B W d.tp d.tl d.tc ts) : InsIn B W (d, ts) := by
  obtain ⟨a1, a2, a3, a4⟩ := ha
  obtain ⟨t1, t2, t3, t4⟩ := ht
  refine ⟨⟨a1, a2, a3, rowAt_of (m := 3) (fun _ => rfl) (by decide) (fun i hi => ?_), fun _ _ => trivial⟩, ⟨t1.symm, t2, t3, rowAt_of (m := 1) (fun _ => rfl) (by decide) (fun i hi => ?_), fun _ _ => trivial⟩⟩
  · obtain ⟨a, e, hb, h0, h1, h2⟩ := a4 i hi
    refine ⟨a, e, hb, fun r hr => ?_⟩
    rcases (show r = 0 ∨ r = 1 ∨ r = 2 by omega) with rfl | rfl | rfl
    · rw [Nat.add_zero]; exact h0
    · rw [add_add a _ 1 (by decide)]; exact h1
    · rw [add_add a _ 2 (by decide)]; exact h2
  · obtain ⟨a, e, hb, h0⟩ := t4 i hi
    refine ⟨a, e, hb, fun r hr => ?_⟩
    obtain rfl : r = 0 := by omega
    rw [Nat.mul_one, Nat.add_zero]; exact h0
theorem sum_range {α : Type} (f : Nat → α) (g : α → Nat) (n : Nat) : (((List.range n).map f).map g).sum = ((List.range n).map fun i => g (f i)).sum := by rw [List.map_map]; rfl

section
variable {H : Type} {enc : TypeId × Value → H} {W : World} {sp : Nat → Bool} {held : Bool}
theorem open_list {α : Type} [Inhabited α] {t e : TypeId} {m : Nat} (hm : 0 < m) (cel : α → List Value) (hc : ∀ x, (cel x).length = m) (E : Nat → World → α → Prop) (P : α → Prop) (z : α → Nat) (ht : Try.prog.underlying t = some (.slice e)) (hce : Try.prog.cellsOf e = m)
    (hel : ∀ (n : Nat) (cs : List Value) (y : DataW H × List MemPlace), cs.length = m → DataW.trod enc Try.prog W 0 sp held n e cs = some y → ∃ x : α, cs = cel x ∧ E W.heap.size W x ∧ P x ∧ z x ≤ Rows.uptoBulk y.1)
    {n : Nat} {c : Value} {y : DataW H × List MemPlace} (h : DataW.trod enc Try.prog W 0 sp held n t [c] = some y) :
    ∃ (p : Option Addr) (k : Nat) (xs : List α), c = .slice p xs.length k ∧ ListIn cel E W.heap.size W p xs.length k xs ∧ (∀ x ∈ xs, P x) ∧ (xs.map z).sum ≤ Rows.uptoBulk y.1 ∧ xs.length ≤ Rows.uptoBulk y.1 := by
  rcases open_slice ht h with ⟨hcc, hx⟩ | ⟨a, len, cap, k, n', D, Pl, hcc, hb, hl, hmm, hk, hx, hi⟩
  · exact ⟨none, 0, [], (List.cons.inj hcc).1, ⟨rfl, Nat.le_refl _, Nat.zero_le _, fun j u hu => by simp at hu, fun x hx => absurd hx (by simp)⟩, fun x hx => absurd hx (by simp), Nat.zero_le _, Nat.zero_le _⟩
  · have lm : len ≤ k := by rw [hk]; split <;> omega
    rw [hce] at hi
    obtain ⟨f, hf⟩ := choose_lt (α := α) (p := fun i x => (a.block < W.heap.size ∧ ∀ r, r < m → W.cell? (a.add (i * m + r)) = (cel x)[r]?) ∧ E W.heap.size W x ∧ P x ∧ z x ≤ Rows.uptoBulk (D i)) (n := len) (fun i hi2 => by
      obtain ⟨cs', h1, h2⟩ := hi i (by omega)
      obtain ⟨_, hlen, hcell⟩ := World.cells?_some h1
      obtain ⟨x, hx, hE, hP, hz⟩ := hel _ cs' _ hlen h2
      refine ⟨x, ⟨?_, ?_⟩, hE, hP, hz⟩
      · have h0 := hcell 0 (by omega)
        rw [List.getElem?_eq_getElem (by omega)] at h0
        have := block_lt h0
        rw [add_block, add_block] at this
        exact this
      · rw [← hx]
        exact cellAt_of (fun j hj => hcell j (by omega)))
    refine ⟨some a, cap, (List.range len).map f, by simp [(List.cons.inj hcc).1], ⟨rfl, by simpa using hl, hmm, rowAt_of hc hm (fun i hi2 => ?_), fun x hx2 => ?_⟩, fun x hx2 => ?_, ?_, ?_⟩
    · have hi3 : i < len := by simpa using hi2
      exact ⟨a, rfl, (hf i hi3).1.1, by simpa using (hf i hi3).1.2⟩
    · obtain ⟨i, hi2, rfl⟩ := List.mem_map.1 hx2
      exact (hf i (List.mem_range.1 hi2)).2.1
    · obtain ⟨i, hi2, rfl⟩ := List.mem_map.1 hx2
      exact (hf i (List.mem_range.1 hi2)).2.2.1
    · subst hx
      have h1 := bulk_sum D (fun i => z (f i)) len (fun i hi2 => (hf i hi2).2.2.2)
      have h2 := bulk_slice ((List.range len).map D) ((List.range (k - len)).map fun j => D (len + j))
      rw [sum_range]
      exact Nat.le_trans h1 h2
    · subst hx
      have h1 := bulk_sum D (fun _ => 1) len (fun i _ => bulk_pos _)
      have h2 := bulk_slice ((List.range len).map D) ((List.range (k - len)).map fun j => D (len + j))
      have e := sum_ones len
      simp only [List.length_map, List.length_range]
      omega
theorem sum_one {α : Type} (xs : List α) : (xs.map fun _ => (1 : Nat)).sum = xs.length := by induction xs with | nil => rfl | cons x xs ih => rw [List.map_cons, List.sum_cons, ih, List.length_cons, Nat.add_comm]
theorem open_ints3 {n : Nat} {c : Value} {y : DataW H × List MemPlace} (h : DataW.trod enc Try.prog W 0 sp held n 23 [c] = some y) :
    ∃ (p : Option Addr) (k : Nat) (ts : List Int), c = .slice p ts.length k ∧ ListIn intC NoMem W.heap.size W p ts.length k ts ∧ ts.length ≤ Rows.uptoBulk y.1 := by
  obtain ⟨p, k, xs, e, hl, _, _, hn⟩ := open_list (α := Int) (m := 1) (by decide) intC (fun _ => rfl) NoMem (fun _ => True) (fun _ => 1) Try.underlying23 cellsInt (fun n cs y hlen h2 => by
    match cs, hlen with
    | [v0], _ =>
      obtain ⟨k, rfl, _⟩ := tr_int h2
      exact ⟨k, rfl, trivial, trivial, bulk_pos _⟩) h
  exact ⟨p, k, xs, e, hl, hn⟩
set_option maxRecDepth 100000 in
theorem open_args3 {n : Nat} {c : Value} {y : DataW H × List MemPlace} (h : DataW.trod enc Try.prog W 0 sp held n 22 [c] = some y) :
    ∃ (p : Option Addr) (k : Nat) (xs : List Arg), c = .slice p xs.length k ∧ ListIn argC NoMem W.heap.size W p xs.length k xs ∧ (∀ x ∈ xs, wfI x.n) ∧ xs.length ≤ Rows.uptoBulk y.1 := by
  obtain ⟨p, k, xs, e, hl, hp, _, hn⟩ := open_list (α := Arg) (m := 3) (by decide) argC (fun _ => rfl) NoMem (fun x => wfI x.n) (fun _ => 1) Try.underlying22 cellsValue (fun n cs y hlen h2 => by
    obtain ⟨xs, k, _, _, _, hxl, hg⟩ := DataW.trod_struct Try.underlying55 h2
    have c3 := cellsInt
    have c22 := cellsU64
    match cs, hlen with
    | [v0, v1, v2], _ =>
      match xs, hxl with
      | [y0, y1, y2], _ =>
        have g0 := hg 0 _ rfl
        have g1 := hg 1 _ rfl
        have g2 := hg 2 _ rfl
        simp [c3, c22] at g0 g1 g2
        obtain ⟨k0, rfl, _⟩ := tr_int g0
        obtain ⟨k1, rfl, w1⟩ := tr_int g1
        obtain ⟨k2, rfl⟩ := tr_u64 g2
        exact ⟨⟨k0, k1, k2⟩, rfl, trivial, w1, bulk_pos _⟩) h
  exact ⟨p, k, xs, e, hl, hp, hn⟩
set_option maxRecDepth 100000 in
theorem open_code3 {n : Nat} {c : Value} {y : DataW H × List MemPlace} (h : DataW.trod enc Try.prog W 0 sp held n 42 [c] = some y) :
    ∃ (p : Option Addr) (k : Nat) (L : List LI), c = .slice p L.length k ∧ ListIn liC InsIn W.heap.size W p L.length k L ∧ (∀ x ∈ L, InsWf x) ∧ codeZ (L.map insD) ≤ Rows.uptoBulk y.1 := by
  obtain ⟨p, k, xs, e, hl, hp, hz, _⟩ := open_list (α := LI) (m := 7) (by decide) liC (fun _ => rfl) InsIn InsWf (fun x => insZ (insD x)) Try.underlying42 cellsInstr (fun n cs y hlen h2 => by
    obtain ⟨xs, k, _, hx, _, hxl, hg⟩ := DataW.trod_struct Try.underlying25 h2
    have c3 := cellsInt
    have c22 := cellsVals
    have c23 := cellsInts
    match cs, hlen with
    | [v0, v1, v2, v3, v4, v5, v6], _ =>
      match xs, hxl with
      | [y0, y1, y2, y3, y4, y5, y6], _ =>
        have g0 := hg 0 _ rfl
        have g1 := hg 1 _ rfl
        have g2 := hg 2 _ rfl
        have g3 := hg 3 _ rfl
        have g4 := hg 4 _ rfl
        have g5 := hg 5 _ rfl
        have g6 := hg 6 _ rfl
        simp [c3, c22, c23] at g0 g1 g2 g3 g4 g5 g6
        obtain ⟨k0, rfl, _⟩ := tr_int g0
        obtain ⟨k1, rfl, w1⟩ := tr_int g1
        obtain ⟨k2, rfl, _⟩ := tr_int g2
        obtain ⟨k3, rfl, _⟩ := tr_int g3
        obtain ⟨k4, rfl, _⟩ := tr_int g4
        obtain ⟨ap, ac, args, rfl, a1, a2, a3⟩ := open_args3 g5
        obtain ⟨tp, tc, ts, rfl, t1, t2⟩ := open_ints3 g6
        refine ⟨(⟨k0, k1, k2, k3, k4, ap, args.length, ac, tp, ts.length, tc, args⟩, ts), rfl, ⟨a1, t1⟩, ⟨w1, a2⟩, ?_⟩
        show 1 + args.length + ts.length ≤ _
        have e : y.1 = .agg [y0.1, y1.1, y2.1, y3.1, y4.1, y5.1, y6.1] := by have := congrArg Prod.fst hx; simpa using this
        rw [e]
        simp only [Rows.uptoBulk, Rows.uptoBulkAll]
        omega) h
  refine ⟨p, k, xs, e, hl, hp, ?_⟩
  unfold codeZ
  rw [List.map_map]
  exact hz
set_option maxRecDepth 100000 in
theorem open_blks3 {n : Nat} {c : Value} {y : DataW H × List MemPlace} (h : DataW.trod enc Try.prog W 0 sp held n 39 [c] = some y) :
    ∃ (p : Option Addr) (k : Nat) (L : List LB), c = .slice p L.length k ∧ ListIn blkC BlkIn W.heap.size W p L.length k L ∧ (∀ x ∈ L, BlkWf x) ∧ blksZ (L.map blkD) ≤ Rows.uptoBulk y.1 := by
  obtain ⟨p, k, xs, e, hl, hp, hz, _⟩ := open_list (α := LB) (m := 1) (by decide) blkC (fun _ => rfl) BlkIn BlkWf (fun x => 1 + codeZ (blkD x)) Try.underlying39 cellsBlock (fun n cs y hlen h2 => by
    obtain ⟨xs, k, _, hx, _, hxl, hg⟩ := DataW.trod_struct Try.underlying67 h2
    have cc := cellsCode
    match cs, hlen with
    | [v0], _ =>
      match xs, hxl with
      | [y0], _ =>
        have g0 := hg 0 _ rfl
        simp [cc] at g0
        obtain ⟨p, c, L, rfl, l1, l2, l3⟩ := open_code3 g0
        refine ⟨⟨p, L.length, c, L⟩, rfl, l1, l2, ?_⟩
        show 1 + codeZ (L.map insD) ≤ _
        have e : y.1 = .agg [y0.1] := by have := congrArg Prod.fst hx; simpa using this
        rw [e]
        simp only [Rows.uptoBulk, Rows.uptoBulkAll]
        omega) h
  refine ⟨p, k, xs, e, hl, hp, ?_⟩
  unfold blksZ
  rw [List.map_map]
  exact hz
set_option maxRecDepth 100000 in
theorem open_fn_cells {n : Nat} {cs : List Value} {y : DataW H × List MemPlace} (hlen : cs.length = 4) (h2 : DataW.trod enc Try.prog W 0 sp held n 41 cs = some y) : ∃ f : LFn, cs = fnC f ∧ FnIn W.heap.size W f ∧ FnWf f ∧ fnZ (fnD f) ≤ Rows.uptoBulk y.1 := by
  obtain ⟨xs, k, _, hx, _, hxl, hg⟩ := DataW.trod_struct Try.underlying41 h2
  have c3 := cellsInt
  have c22 := cellsBlocks
  have c23 := cellsInts
  have c9 := cellsString
  match cs, hlen with
  | [v0, v1, v2, v3], _ =>
    match xs, hxl with
    | [y0, y1, y2, y3], _ =>
      have g0 := hg 0 _ rfl
      have g1 := hg 1 _ rfl
      have g2 := hg 2 _ rfl
      have g3 := hg 3 _ rfl
      simp [c3, c22, c23, c9] at g0 g1 g2 g3
      obtain ⟨s0, rfl⟩ : ∃ s0 : ByteArray, v0 = .string s0 := by
        obtain ⟨s0, h1, _⟩ := DataW.trod_string Try.underlying9 g0
        exact ⟨s0, (List.cons.inj h1).1⟩
      obtain ⟨k2, rfl, _⟩ := tr_int g2
      obtain ⟨p1, c1, us, rfl, u1, u2⟩ := open_ints3 g1
      obtain ⟨p2, c2, L, rfl, l1, l2, l3⟩ := open_blks3 g3
      refine ⟨⟨s0, p1, us.length, c1, us, k2, p2, L.length, c2, L⟩, rfl, ⟨u1, l1⟩, l2, ?_⟩
      show 1 + us.length + blksZ (L.map blkD) ≤ _
      have e : y.1 = .agg [y0.1, y1.1, y2.1, y3.1] := by have := congrArg Prod.fst hx; simpa using this
      rw [e]
      simp only [Rows.uptoBulk, Rows.uptoBulkAll]
      omega
set_option maxRecDepth 100000 in
theorem open_fn3 {r : Reach} {b0 : Nat} {v : Value} {d : DataW H} {p : List MemPlace} (hv : Value.okWide Try.prog W r b0 41 v) (h : DataW.Trod enc Try.prog W 0 sp held 41 v d p) :
    ∃ f : LFn, v = .agg (fnC f).toArray ∧ FnIn W.heap.size W f ∧ FnWf f ∧ fnZ (fnD f) ≤ Rows.uptoBulk d := by
  obtain ⟨cs, rfl, hsz⟩ := okWide_struct Try.underlying41 hv
  obtain ⟨fuel, hf⟩ := h
  obtain ⟨ls⟩ := cs
  obtain ⟨f, hc, h1, h2, h3⟩ := open_fn_cells (hsz.trans cellsFunc) hf
  exact ⟨f, by have hc : ls = fnC f := hc
               rw [hc], h1, h2, h3⟩
set_option maxRecDepth 100000 in
theorem open_ext_cells {n : Nat} {cs : List Value} {y : DataW H × List MemPlace} (hlen : cs.length = 3) (h2 : DataW.trod enc Try.prog W 0 sp held n 70 cs = some y) : ∃ f : LExt, cs = extC f ∧ ExtIn W.heap.size W f ∧ extZ (extD f) ≤ Rows.uptoBulk y.1 := by
  obtain ⟨xs, k, _, hx, _, hxl, hg⟩ := DataW.trod_struct Try.underlying70 h2
  have c3 := cellsInt
  have c23 := cellsInts
  have c9 := cellsString
  match cs, hlen with
  | [v0, v1, v2], _ =>
    match xs, hxl with
    | [y0, y1, y2], _ =>
      have g0 := hg 0 _ rfl
      have g1 := hg 1 _ rfl
      have g2 := hg 2 _ rfl
      simp [c3, c23, c9] at g0 g1 g2
      obtain ⟨s0, rfl⟩ : ∃ s0 : ByteArray, v0 = .string s0 := by
        obtain ⟨s0, h1, _⟩ := DataW.trod_string Try.underlying9 g0
        exact ⟨s0, (List.cons.inj h1).1⟩
      obtain ⟨k2, rfl, _⟩ := tr_int g2
      obtain ⟨p1, c1, us, rfl, u1, u2⟩ := open_ints3 g1
      refine ⟨⟨s0, p1, us.length, c1, us, k2⟩, rfl, u1, ?_⟩
      show 1 + us.length ≤ _
      have e : y.1 = .agg [y0.1, y1.1, y2.1] := by have := congrArg Prod.fst hx; simpa using this
      rw [e]
      simp only [Rows.uptoBulk, Rows.uptoBulkAll]
      omega
set_option maxRecDepth 100000 in
theorem open_mod3 {r : Reach} {b0 : Nat} {v : Value} {d : DataW H} {p : List MemPlace} (hv : Value.okWide Try.prog W r b0 34 v) (h : DataW.Trod enc Try.prog W 0 sp held 34 v d p) :
    ∃ m : LMod, v = .agg (modC m).toArray ∧ ModIn W.heap.size W m ∧ (∀ f ∈ m.fs, FnWf f) ∧ modZ (modD m) ≤ Rows.uptoBulk d := by
  obtain ⟨cs, rfl, hsz⟩ := okWide_struct Try.underlying34 hv
  obtain ⟨fuel, hf⟩ := h
  obtain ⟨ls⟩ := cs
  obtain ⟨xs, k, _, hx, _, hxl, hg⟩ := DataW.trod_struct Try.underlying34 hf
  have cV := cellsVars
  have cX := cellsExterns
  have cF := cellsFuncs
  match ls, (hsz.trans cellsModule : ls.length = 3) with
  | [v0, v1, v2], _ =>
    match xs, hxl with
    | [y0, y1, y2], _ =>
      have g0 := hg 0 _ rfl
      have g1 := hg 1 _ rfl
      have g2 := hg 2 _ rfl
      simp [Value.cells, cV, cX, cF] at g0 g1 g2
      obtain ⟨p0, k0, vs, rfl, i0, _, _, z0⟩ := open_list (α := PVar) (m := 2) (by decide) varC (fun _ => rfl) NoMem (fun _ => True) (fun _ => 1) Try.underlying30 cellsVar (fun n cs y hlen h2 => by
        obtain ⟨xs, k, _, hx, _, hxl, hg⟩ := DataW.trod_struct Try.underlying73 h2
        have c3 := cellsInt
        have c9 := cellsString
        match cs, hlen with
        | [v0, v1], _ =>
          match xs, hxl with
          | [y0, y1], _ =>
            have g0 := hg 0 _ rfl
            have g1 := hg 1 _ rfl
            simp [c3, c9] at g0 g1
            obtain ⟨s0, rfl⟩ : ∃ s0 : ByteArray, v0 = .string s0 := by
              obtain ⟨s0, h1, _⟩ := DataW.trod_string Try.underlying9 g0
              exact ⟨s0, (List.cons.inj h1).1⟩
            obtain ⟨k2, rfl, _⟩ := tr_int g1
            exact ⟨⟨s0, k2⟩, rfl, trivial, trivial, bulk_pos _⟩) g0
      obtain ⟨p1, k1, es, rfl, i1, _, z1, _⟩ := open_list (α := LExt) (m := 3) (by decide) extC (fun _ => rfl) ExtIn (fun _ => True) (fun x => extZ (extD x)) Try.underlying31 cellsExtern (fun n cs y hlen h2 => by
        obtain ⟨f, hc, h1, h3⟩ := open_ext_cells hlen h2
        exact ⟨f, hc, h1, trivial, h3⟩) g1
      obtain ⟨p2, k2, fs, rfl, i2, w2, z2, _⟩ := open_list (α := LFn) (m := 4) (by decide) fnC (fun _ => rfl) FnIn FnWf (fun x => fnZ (fnD x)) Try.underlying32 cellsFunc (fun n cs y hlen h2 => open_fn_cells hlen h2) g2
      refine ⟨⟨p0, vs.length, k0, vs, p1, es.length, k1, es, p2, fs.length, k2, fs⟩, rfl, ⟨i0, i1, i2⟩, w2, ?_⟩
      show vs.length + ((es.map extD).map extZ).sum + ((fs.map fnD).map fnZ).sum ≤ _
      rw [List.map_map, List.map_map]
      have e : d = .agg [y0.1, y1.1, y2.1] := by have := congrArg Prod.fst hx; simpa using this
      rw [e]
      simp only [Rows.uptoBulk, Rows.uptoBulkAll]
      show vs.length + (es.map fun x => extZ (extD x)).sum + (fs.map fun x => fnZ (fnD x)).sum ≤ _
      omega
end
end Go.Proofs.Ytpfeiolmkbibiaa
