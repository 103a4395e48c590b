/- An argument that is an api.Func, opened down to its operands, its lists of targets and its parameters. -/
import Derived.Test.YtpfeiolmkbibiaaIrX
namespace Go.Proofs.Ytpfeiolmkbibiaa
open Go.RowKit Go.Maps Go.ChangeShapes Go.WideShapes Go.Deep
set_option linter.unusedVariables false
set_option linter.unusedSimpArgs false

/-- A list of ints, below B. -/
def IntsAt (B : Nat) (w : World) (p : Option Addr) (n c : Nat) (ts : List Int) : Prop :=
  ts.length = n ∧ n ≤ c ∧ c ≤ maxLen ∧ ∀ i (h : i < ts.length), ∃ a, p = some a ∧ a.block < B ∧ w.cell? (a.add i) = some (.int .i64 ts[i])
theorem IntsAt.below {B : Nat} {W w : World} {p : Option Addr} {n c : Nat} {ts : List Int} (h : IntsAt B W p n c ts) (hb : Below B W w) : IntsAt B w p n c ts := by
  obtain ⟨h1, h2, h3, h4⟩ := h
  refine ⟨h1, h2, h3, fun i hi => ?_⟩
  obtain ⟨a, e, ha, hI⟩ := h4 i hi
  exact ⟨a, e, ha, (hb.cell (p := a.add i) (by rw [add_block]; exact ha)).trans hI⟩
def cntT (l : List Ins) : Nat := (l.map fun d => 1 + d.args.length + d.tl).sum
theorem cnt_le (l : List Ins) : cnt l ≤ cntT l := by
  unfold cnt cntT argsNum
  induction l with
  | nil => exact Nat.le_refl _
  | cons d l ih => simp only [List.map_cons, List.sum_cons, List.length_cons]; omega
/-- What an instruction's reading gives. -/
def InsOk2 (W : World) (d : Ins) : Prop := InsOk W d ∧ ∃ ts : List Int, IntsAt W.heap.size W d.tp d.tl d.tc ts
section
variable {H : Type} {enc : TypeId × Value → H} {W : World} {sp : Nat → Bool} {held : Bool}
theorem open_ints {n : Nat} {c : Value} {y : DataW H × List MemPlace} (h : DataW.trod enc Try.prog W 0 sp held n 23 [c] = some y) :
    ∃ (p : Option Addr) (k : Nat) (ts : List Int), c = .slice p ts.length k ∧ IntsAt W.heap.size W p ts.length k ts ∧ ts.length ≤ Rows.uptoBulk y.1 := by
  rcases open_slice Try.underlying23 h with ⟨hc, hx⟩ | ⟨a, len, cap, m, n', D, Pl, hc, hb, hl, hm, hmm, hx, hi⟩
  · exact ⟨none, 0, [], (List.cons.inj hc).1, ⟨rfl, Nat.le_refl _, Nat.zero_le _, fun i h => absurd h (Nat.not_lt_zero i)⟩, Nat.zero_le _⟩
  · have lm : len ≤ m := by rw [hmm]; split <;> omega
    rw [cellsInt] at hi
    obtain ⟨f, hf⟩ := choose_lt (α := Int) (p := fun i v => W.cell? (a.add i) = some (.int .i64 v)) (n := len) (fun i hi2 => by
      obtain ⟨cs', h1, h2⟩ := hi i (by omega)
      obtain ⟨_, hlen, hcell⟩ := World.cells?_some h1
      match cs', hlen with
      | [v0], _ =>
        obtain ⟨k, rfl, _⟩ := tr_int h2
        have := hcell 0 (by decide)
        rw [add_zero, Nat.mul_one] at this
        exact ⟨k, this⟩)
    refine ⟨some a, cap, (List.range len).map f, by simp [(List.cons.inj hc).1], ⟨rfl, by simpa using hl, hm, fun i h => ?_⟩, ?_⟩
    · have hi2 : i < len := by simpa using h
      refine ⟨a, rfl, ?_, by simpa using hf i hi2⟩
      have := block_lt (hf i hi2); rwa [add_block] at this
    · subst hx
      have h1 := bulk_sum D (fun _ => 1) len (fun i _ => bulk_pos _)
      have h2 := bulk_slice ((List.range len).map D) ((List.range (m - len)).map fun j => D (len + j))
      have e := sum_ones len
      simp only [List.length_map, List.length_range]
      omega
set_option maxRecDepth 100000 in
theorem open_ins2 {n : Nat} {a : Addr} {i : Nat} {cs : List Value} {y : DataW H × List MemPlace} (h1 : W.cells? 0 (a.add (i * 7)) 7 = some cs) (h2 : DataW.trod enc Try.prog W 0 sp held n 25 cs = some y) :
    ∃ d : Ins, InsAt W (a.add (i * 7)) d ∧ InsOk2 W d ∧ 1 + d.args.length + d.tl ≤ Rows.uptoBulk y.1 := by
  obtain ⟨_, hlen, hcell⟩ := World.cells?_some h1
  obtain ⟨xs, k, _, hx, _, hxl, hg⟩ := DataW.trod_struct Try.underlying25 h2
  have c3 := cellsInt
  have c22 := cellsVals
  have c23 := cellsInts
  match cs, hlen with
  | [v0, v1, v2, v3, v4, v5, v6], _ =>
    match xs, hxl with
    | [y0, y1, y2, y3, y4, y5, y6], _ =>
      have g0 := hg 0 _ rfl
      have g1 := hg 1 _ rfl
      have g2 := hg 2 _ rfl
      have g3 := hg 3 _ rfl
      have g4 := hg 4 _ rfl
      have g5 := hg 5 _ rfl
      have g6 := hg 6 _ rfl
      simp [c3, c22, c23] at g0 g1 g2 g3 g4 g5 g6
      obtain ⟨k0, rfl, _⟩ := tr_int g0
      obtain ⟨k1, rfl, w1⟩ := tr_int g1
      obtain ⟨k2, rfl, _⟩ := tr_int g2
      obtain ⟨k3, rfl, _⟩ := tr_int g3
      obtain ⟨k4, rfl, _⟩ := tr_int g4
      obtain ⟨ap, ac, args, rfl, a1, a2, a3, a4, a5⟩ := open_args g5
      obtain ⟨tp, tc, ts, rfl, t1, t2⟩ := open_ints g6
      refine ⟨⟨k0, k1, k2, k3, k4, ap, args.length, ac, tp, ts.length, tc, args⟩, ⟨?_, ?_, ?_, ?_, ?_, ?_, ?_⟩, ⟨⟨⟨rfl, a1, a2, a3⟩, w1, a4⟩, ts, t1⟩, ?_⟩
      · have := hcell 0 (by decide); rw [add_zero] at this; exact this
      · have := hcell 1 (by decide); rw [add_pos _ 1 (by decide)] at this; exact this
      · have := hcell 2 (by decide); rw [add_pos _ 2 (by decide)] at this; exact this
      · have := hcell 3 (by decide); rw [add_pos _ 3 (by decide)] at this; exact this
      · have := hcell 4 (by decide); rw [add_pos _ 4 (by decide)] at this; exact this
      · have := hcell 5 (by decide); rw [add_pos _ 5 (by decide)] at this; exact this
      · have := hcell 6 (by decide); rw [add_pos _ 6 (by decide)] at this; exact this
      · rw [hx]
        simp only [List.map_cons, List.map_nil, Rows.uptoBulk, Rows.uptoBulkAll]
        show 1 + args.length + ts.length ≤ _
        omega
theorem cntT_map (f : Nat → Ins) (n : Nat) : cntT ((List.range n).map f) = ((List.range n).map fun i => 1 + (f i).args.length + (f i).tl).sum := by unfold cntT; rw [List.map_map]; rfl
theorem open_code2 {n : Nat} {c : Value} {y : DataW H × List MemPlace} (h : DataW.trod enc Try.prog W 0 sp held n 42 [c] = some y) :
    ∃ l : List Ins, CodeAt W.heap.size W c l ∧ (∀ i (h : i < l.length), InsOk2 W l[i]) ∧ cntT l ≤ Rows.uptoBulk y.1 := by
  rcases open_slice Try.underlying42 h with ⟨hc, hx⟩ | ⟨a, len, cap, m, n', D, Pl, hc, hb, hl, hm, hmm, hx, hi⟩
  · exact ⟨[], ⟨none, 0, (List.cons.inj hc).1, Nat.le_refl _, Nat.zero_le _, fun i h => absurd h (Nat.not_lt_zero i)⟩, fun i h => absurd h (Nat.not_lt_zero i), Nat.zero_le _⟩
  · have lm : len ≤ m := by rw [hmm]; split <;> omega
    rw [cellsInstr] at hi
    obtain ⟨f, hf⟩ := choose_lt (α := Ins) (p := fun i d => InsAt W (a.add (i * 7)) d ∧ InsOk2 W d ∧ 1 + d.args.length + d.tl ≤ Rows.uptoBulk (D i)) (n := len) (fun i hi2 => by
      obtain ⟨cs', h1, h2⟩ := hi i (by omega)
      exact open_ins2 h1 h2)
    refine ⟨(List.range len).map f, ⟨some a, cap, by simp [(List.cons.inj hc).1], by simpa using hl, hm, fun i h => ?_⟩, fun i h => ?_, ?_⟩
    · have hi2 : i < len := by simpa using h
      refine ⟨a, rfl, ?_, ?_⟩
      · have := block_lt (hf i hi2).1.1; rwa [add_block] at this
      · simpa using (hf i hi2).1
    · have hi2 : i < len := by simpa using h
      simpa using (hf i hi2).2.1
    · subst hx
      have h1 := bulk_sum D (fun i => 1 + (f i).args.length + (f i).tl) len (fun i hi => (hf i hi).2.2)
      have h2 := bulk_slice ((List.range len).map D) ((List.range (m - len)).map fun j => D (len + j))
      rw [cntT_map]
      exact Nat.le_trans h1 h2
theorem cntT_app (l m : List Ins) : cntT (l ++ m) = cntT l + cntT m := by unfold cntT; rw [List.map_append, List.sum_append]
theorem cntT_flat (f : Nat → List Ins) : ∀ n : Nat, cntT ((List.range n).map f).flatten = ((List.range n).map fun i => cntT (f i)).sum
  | 0 => rfl
  | n + 1 => by rw [List.range_succ, List.map_append, List.map_append, List.sum_append, List.flatten_append, cntT_app, cntT_flat f n]; simp
set_option maxRecDepth 100000 in
theorem open_blocks2 {n : Nat} {c : Value} {y : DataW H × List MemPlace} (h : DataW.trod enc Try.prog W 0 sp held n 39 [c] = some y) :
    ∃ l : List (List Ins), BlocksAt W.heap.size W c l ∧ (∀ b (h : b < l.length) k (hk : k < l[b].length), InsOk2 W l[b][k]) ∧ cntT l.flatten ≤ Rows.uptoBulk y.1 := by
  rcases open_slice Try.underlying39 h with ⟨hc, hx⟩ | ⟨a, len, cap, m, n', D, Pl, hc, hb, hl, hm, hmm, hx, hi⟩
  · exact ⟨[], ⟨none, 0, (List.cons.inj hc).1, Nat.le_refl _, Nat.zero_le _, fun i h => absurd h (Nat.not_lt_zero i)⟩, fun i h => absurd h (Nat.not_lt_zero i), Nat.zero_le _⟩
  · have lm : len ≤ m := by rw [hmm]; split <;> omega
    rw [cellsBlock] at hi
    obtain ⟨f, hf⟩ := choose_lt (α := Value × List Ins) (p := fun i x => W.cell? (a.add i) = some x.1 ∧ CodeAt W.heap.size W x.1 x.2 ∧ (∀ k (h : k < x.2.length), InsOk2 W x.2[k]) ∧ cntT x.2 ≤ Rows.uptoBulk (D i)) (n := len) (fun i hi2 => by
      obtain ⟨cs', h1, h2⟩ := hi i (by omega)
      obtain ⟨_, hlen, hcell⟩ := World.cells?_some h1
      obtain ⟨xs, k, _, hx1, _, hxl, hg⟩ := DataW.trod_struct Try.underlying67 h2
      have cc := cellsCode
      match cs', hlen with
      | [v0], _ =>
        match xs, hxl with
        | [y0], _ =>
          have g0 := hg 0 _ rfl
          simp [cc] at g0
          obtain ⟨l, l1, l2, l3⟩ := open_code2 g0
          refine ⟨(v0, l), ?_, l1, l2, ?_⟩
          · have := hcell 0 (by decide); rw [add_zero, Nat.mul_one] at this; exact this
          · have e : D i = .agg [y0.1] := by have := congrArg Prod.fst hx1; simpa using this
            rw [e]
            simp only [Rows.uptoBulk, Rows.uptoBulkAll]
            exact Nat.le_trans l3 (by omega))
    refine ⟨(List.range len).map fun i => (f i).2, ⟨some a, cap, by simp [(List.cons.inj hc).1], by simpa using hl, hm, fun i h => ?_⟩, fun i h k hk => ?_, ?_⟩
    · have hi2 : i < len := by simpa using h
      refine ⟨a, (f i).1, rfl, ?_, (hf i hi2).1, ?_⟩
      · have := block_lt (hf i hi2).1; rwa [add_block] at this
      · simpa using (hf i hi2).2.1
    · have hi2 : i < len := by simpa using h
      have e : ((List.range len).map fun i => (f i).2)[i] = (f i).2 := by simp
      have hk2 : k < (f i).2.length := by rw [← e]; exact hk
      have := (hf i hi2).2.2.1 k hk2
      simpa using this
    · subst hx
      have h1 := bulk_sum D (fun i => cntT (f i).2) len (fun i hi => (hf i hi).2.2.2)
      have h2 := bulk_slice ((List.range len).map D) ((List.range (m - len)).map fun j => D (len + j))
      rw [cntT_flat]
      exact Nat.le_trans h1 h2
/-- What an argument's reading as a function gives. -/
structure FuncOk2 (W : World) (s0 : ByteArray) (p1 : Option Addr) (n1 c1 : Nat) (rt : Int) (p2 : Option Addr) (n2 c2 : Nat) (l : List (List Ins)) : Prop where
  blocks : BlocksAt W.heap.size W (.slice p2 n2 c2) l
  ins : ∀ b (h : b < l.length) k (hk : k < l[b].length), InsOk2 W l[b][k]
  params : ∃ ts : List Int, IntsAt W.heap.size W p1 n1 c1 ts
theorem FuncOk2.ok {W : World} {s0 : ByteArray} {p1 : Option Addr} {n1 c1 : Nat} {rt : Int} {p2 : Option Addr} {n2 c2 : Nat} {l : List (List Ins)} (h : FuncOk2 W s0 p1 n1 c1 rt p2 n2 c2 l) : FuncOk W s0 p1 n1 c1 rt p2 n2 c2 l := ⟨h.blocks, fun b x k y => (h.ins b x k y).1⟩
set_option maxRecDepth 100000 in
theorem open_func2 {r : Reach} {b0 : Nat} {v : Value} {d : DataW H} {p : List MemPlace} (hv : Value.okWide Try.prog W r b0 41 v) (h : DataW.Trod enc Try.prog W 0 sp held 41 v d p) :
    ∃ (s0 : ByteArray) (p1 : Option Addr) (n1 c1 : Nat) (rt : Int) (p2 : Option Addr) (n2 c2 : Nat) (l : List (List Ins)), v = .agg #[.string s0, .slice p1 n1 c1, .int .i64 rt, .slice p2 n2 c2] ∧ FuncOk2 W s0 p1 n1 c1 rt p2 n2 c2 l ∧ cntT l.flatten + n1 ≤ Rows.uptoBulk d := by
  obtain ⟨cs, rfl, hsz⟩ := okWide_struct Try.underlying41 hv
  have hC := cellsFunc
  have c3 := cellsInt
  have c22 := cellsBlocks
  have c23 := cellsInts
  have c9 := cellsString
  obtain ⟨ls⟩ := cs
  match ls, hsz.trans hC with
  | [v0, v1, v2, v3], _ =>
    obtain ⟨fuel, hf⟩ := h
    obtain ⟨xs, n, _, hx, _, hlen, hg⟩ := DataW.trod_struct Try.underlying41 hf
    match xs, hlen with
    | [y0, y1, y2, y3], _ =>
      have g0 := hg 0 _ rfl
      have g1 := hg 1 _ rfl
      have g2 := hg 2 _ rfl
      have g3 := hg 3 _ rfl
      simp [Value.cells, c3, c22, c23, c9] at g0 g1 g2 g3
      obtain ⟨s0, rfl⟩ : ∃ s0 : ByteArray, v0 = .string s0 := by
        obtain ⟨s0, h1, _⟩ := DataW.trod_string Try.underlying9 g0
        exact ⟨s0, (List.cons.inj h1).1⟩
      obtain ⟨k2, rfl, _⟩ := tr_int g2
      obtain ⟨p1, c1, us, rfl, u1, u2⟩ := open_ints g1
      obtain ⟨l, l1, l2, l3⟩ := open_blocks2 g3
      obtain ⟨p2, c2, rfl, _⟩ := id l1
      refine ⟨s0, p1, us.length, c1, k2, p2, l.length, c2, l, rfl, ⟨l1, l2, us, u1⟩, ?_⟩
      have e : d = .agg [y0.1, y1.1, y2.1, y3.1] := by have := congrArg Prod.fst hx; simpa using this
      rw [e]
      simp only [Rows.uptoBulk, Rows.uptoBulkAll]
      omega
end
end Go.Proofs.Ytpfeiolmkbibiaa
