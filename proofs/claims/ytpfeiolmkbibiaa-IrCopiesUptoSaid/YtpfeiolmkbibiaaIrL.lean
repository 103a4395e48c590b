/- An argument that is a function, opened down to its operands. -/
import Derived.Test.YtpfeiolmkbibiaaRows
import Derived.Test.YtpfeiolmkbibiaaIrJ
import Derived.OpenShut
import Derived.Deep.Slices
namespace Go.Proofs.Ytpfeiolmkbibiaa
open Go.RowKit Go.Maps Go.ChangeShapes Go.WideShapes Go.Deep
set_option linter.unusedVariables false
set_option linter.unusedSimpArgs false

theorem cellsInt : Try.prog.cellsOf 3 = 1 := by kernel_rfl
theorem cellsU64 : Try.prog.cellsOf 53 = 1 := by kernel_rfl
theorem cellsValue : Try.prog.cellsOf 55 = 3 := by kernel_rfl
theorem cellsInstr : Try.prog.cellsOf 25 = 7 := by kernel_rfl
theorem cellsBlock : Try.prog.cellsOf 67 = 1 := by kernel_rfl
theorem cellsFunc : Try.prog.cellsOf 41 = 4 := by kernel_rfl
theorem cellsVals : Try.prog.cellsOf 22 = 1 := by kernel_rfl
theorem cellsInts : Try.prog.cellsOf 23 = 1 := by kernel_rfl
theorem cellsBlocks : Try.prog.cellsOf 39 = 1 := by kernel_rfl
theorem cellsString : Try.prog.cellsOf 9 = 1 := by kernel_rfl
theorem cellsCode : Try.prog.cellsOf 42 = 1 := by kernel_rfl
theorem block_lt {w : World} {a : Addr} {v : Value} (h : w.cell? a = some v) : a.block < w.heap.size := by
  by_cases hl : a.block < w.heap.size
  · exact hl
  · unfold World.cell? at h
    rw [Array.getElem?_eq_none (by omega)] at h
    cases h
theorem add_pos (x : Addr) (j : Nat) (hj : j ≠ 0) : x.add j = ⟨x.block, x.off + j, none⟩ := by unfold Addr.add; rw [if_neg hj]
theorem add_zero (x : Addr) : x.add 0 = x := by unfold Addr.add; rw [if_pos rfl]

instance : Inhabited Arg := ⟨⟨0, 0, 0⟩⟩
instance : Inhabited Ins := ⟨⟨0, 0, 0, 0, 0, none, 0, 0, none, 0, 0, []⟩⟩

/-! The bulk of a reading. -/
theorem bulk_pos {H : Type} (d : DataW H) : 1 ≤ Rows.uptoBulk d := by
  cases d
  case lit l => cases l <;> simp [Rows.uptoBulk]
  all_goals simp [Rows.uptoBulk]
theorem bulk_app {H : Type} (l r : List (DataW H)) : Rows.uptoBulkAll (l ++ r) = Rows.uptoBulkAll l + Rows.uptoBulkAll r := by
  induction l with
  | nil => simp [Rows.uptoBulkAll]
  | cons x l ih => simp only [List.cons_append, Rows.uptoBulkAll, ih]; omega
theorem bulk_sum {H : Type} (D : Nat → DataW H) (g : Nat → Nat) : ∀ n : Nat, (∀ i, i < n → g i ≤ Rows.uptoBulk (D i)) → ((List.range n).map g).sum ≤ Rows.uptoBulkAll ((List.range n).map D)
  | 0, _ => Nat.zero_le _
  | n + 1, h => by
    have ih := bulk_sum D g n (fun i hi => h i (by omega))
    have hn := h n (by omega)
    rw [List.range_succ, List.map_append, List.map_append, bulk_app, List.sum_append]
    simp [Rows.uptoBulkAll]
    omega
theorem sum_ones : ∀ n : Nat, ((List.range n).map (fun _ => (1 : Nat))).sum = n
  | 0 => rfl
  | n + 1 => by rw [List.range_succ, List.map_append, List.sum_append, sum_ones n]; rfl
theorem bulk_slice {H : Type} (e s : List (DataW H)) : Rows.uptoBulkAll e ≤ Rows.uptoBulk (.slice e s) := by simp only [Rows.uptoBulk]; omega

section
variable {H : Type} {enc : TypeId × Value → H} {W : World} {sp : Nat → Bool} {held : Bool}
theorem tr_int {n : Nat} {c : Value} {y : DataW H × List MemPlace} (h : DataW.trod enc Try.prog W 0 sp held n 3 [c] = some y) : ∃ k : Int, c = .int .i64 k ∧ (Lit.int .i64 k).wf = true := by
  obtain ⟨k, h1, _, h2⟩ := DataW.trod_int Try.underlying3 h
  exact ⟨k, (List.cons.inj h1).1, h2⟩
theorem tr_u64 {n : Nat} {c : Value} {y : DataW H × List MemPlace} (h : DataW.trod enc Try.prog W 0 sp held n 53 [c] = some y) : ∃ k : Int, c = .int .u64 k := by
  obtain ⟨k, h1, _, _⟩ := DataW.trod_int Try.underlying53 h
  exact ⟨k, (List.cons.inj h1).1⟩
set_option maxRecDepth 100000 in
theorem open_arg {n : Nat} {a : Addr} {i : Nat} {cs : List Value} {y : DataW H × List MemPlace} (h1 : W.cells? 0 (a.add (i * 3)) 3 = some cs) (h2 : DataW.trod enc Try.prog W 0 sp held n 55 cs = some y) :
    ∃ v : Arg, ArgAt W (a.add (i * 3)) v ∧ (Lit.int .i64 v.n).wf = true := by
  obtain ⟨_, hlen, hcell⟩ := World.cells?_some h1
  obtain ⟨xs, k, _, _, _, hxl, hg⟩ := DataW.trod_struct Try.underlying55 h2
  have c3 := cellsInt
  have c22 := cellsU64
  match cs, hlen with
  | [v0, v1, v2], _ =>
    match xs, hxl with
    | [y0, y1, y2], _ =>
      have g0 := hg 0 _ rfl
      have g1 := hg 1 _ rfl
      have g2 := hg 2 _ rfl
      simp [c3, c22] at g0 g1 g2
      obtain ⟨k0, rfl, _⟩ := tr_int g0
      obtain ⟨k1, rfl, w1⟩ := tr_int g1
      obtain ⟨k2, rfl⟩ := tr_u64 g2
      refine ⟨⟨k0, k1, k2⟩, ⟨?_, ?_, ?_⟩, w1⟩
      · have := hcell 0 (by decide); rw [add_zero] at this; exact this
      · have := hcell 1 (by decide); rw [add_pos _ 1 (by decide)] at this; exact this
      · have := hcell 2 (by decide); rw [add_pos _ 2 (by decide)] at this; exact this
theorem open_args {n : Nat} {c : Value} {y : DataW H × List MemPlace} (h : DataW.trod enc Try.prog W 0 sp held n 22 [c] = some y) :
    ∃ (ap : Option Addr) (ac : Nat) (args : List Arg), c = .slice ap args.length ac ∧ args.length ≤ ac ∧ ac ≤ maxLen ∧ (∀ i (h : i < args.length), ∃ a, ap = some a ∧ a.block < W.heap.size ∧ ArgAt W (a.add (i * 3)) args[i]) ∧
      (∀ i (h : i < args.length), (Lit.int .i64 args[i].n).wf = true) ∧ args.length ≤ Rows.uptoBulk y.1 := by
  rcases open_slice Try.underlying22 h with ⟨hc, hx⟩ | ⟨a, len, cap, m, n', D, Pl, hc, hb, hl, hm, hmm, hx, hi⟩
  · exact ⟨none, 0, [], (List.cons.inj hc).1, Nat.le_refl _, Nat.zero_le _, fun i h => absurd h (Nat.not_lt_zero i), fun i h => absurd h (Nat.not_lt_zero i), Nat.zero_le _⟩
  · have lm : len ≤ m := by rw [hmm]; split <;> omega
    rw [cellsValue] at hi
    obtain ⟨f, hf⟩ := choose_lt (α := Arg) (p := fun i v => ArgAt W (a.add (i * 3)) v ∧ (Lit.int .i64 v.n).wf = true) (n := len) (fun i hi2 => by
      obtain ⟨cs', h1, h2⟩ := hi i (by omega)
      exact open_arg h1 h2)
    refine ⟨some a, cap, (List.range len).map f, by simp [(List.cons.inj hc).1], by simpa using hl, hm, fun i h => ?_, fun i h => ?_, ?_⟩
    · have hi2 : i < len := by simpa using h
      refine ⟨a, rfl, ?_, ?_⟩
      · have := block_lt (hf i hi2).1.1; rwa [add_block] at this
      · simpa using (hf i hi2).1
    · have hi2 : i < len := by simpa using h
      simpa using (hf i hi2).2
    · subst hx
      have h1 := bulk_sum D (fun _ => 1) len (fun i _ => bulk_pos _)
      have h2 := bulk_slice ((List.range len).map D) ((List.range (m - len)).map fun j => D (len + j))
      have e := sum_ones len
      simp only [List.length_map, List.length_range]
      omega
/-- What an instruction's reading gives. -/
def InsOk (W : World) (d : Ins) : Prop := ArgsAt W.heap.size W d ∧ (Lit.int .i64 d.reg).wf = true ∧ ∀ i (h : i < d.args.length), (Lit.int .i64 d.args[i].n).wf = true
set_option maxRecDepth 100000 in
theorem open_ins {n : Nat} {a : Addr} {i : Nat} {cs : List Value} {y : DataW H × List MemPlace} (h1 : W.cells? 0 (a.add (i * 7)) 7 = some cs) (h2 : DataW.trod enc Try.prog W 0 sp held n 25 cs = some y) :
    ∃ d : Ins, InsAt W (a.add (i * 7)) d ∧ InsOk W d ∧ 1 + d.args.length ≤ Rows.uptoBulk y.1 := by
  obtain ⟨_, hlen, hcell⟩ := World.cells?_some h1
  obtain ⟨xs, k, _, hx, _, hxl, hg⟩ := DataW.trod_struct Try.underlying25 h2
  have c3 := cellsInt
  have c22 := cellsVals
  have c23 := cellsInts
  match cs, hlen with
  | [v0, v1, v2, v3, v4, v5, v6], _ =>
    match xs, hxl with
    | [y0, y1, y2, y3, y4, y5, y6], _ =>
      have g0 := hg 0 _ rfl
      have g1 := hg 1 _ rfl
      have g2 := hg 2 _ rfl
      have g3 := hg 3 _ rfl
      have g4 := hg 4 _ rfl
      have g5 := hg 5 _ rfl
      have g6 := hg 6 _ rfl
      simp [c3, c22, c23] at g0 g1 g2 g3 g4 g5 g6
      obtain ⟨k0, rfl, _⟩ := tr_int g0
      obtain ⟨k1, rfl, w1⟩ := tr_int g1
      obtain ⟨k2, rfl, _⟩ := tr_int g2
      obtain ⟨k3, rfl, _⟩ := tr_int g3
      obtain ⟨k4, rfl, _⟩ := tr_int g4
      obtain ⟨ap, ac, args, rfl, a1, a2, a3, a4, a5⟩ := open_args g5
      obtain ⟨tp, tl, tc, rfl⟩ : ∃ (p : Option Addr) (l k : Nat), v6 = .slice p l k := by
        rcases open_slice Try.underlying23 g6 with ⟨h0, _⟩ | ⟨a, len, cap, _, _, _, _, h0, _⟩
        · exact ⟨none, 0, 0, (List.cons.inj h0).1⟩
        · exact ⟨some a, len, cap, (List.cons.inj h0).1⟩
      refine ⟨⟨k0, k1, k2, k3, k4, ap, args.length, ac, tp, tl, tc, args⟩, ⟨?_, ?_, ?_, ?_, ?_, ?_, ?_⟩, ⟨⟨rfl, a1, a2, a3⟩, w1, a4⟩, ?_⟩
      · have := hcell 0 (by decide); rw [add_zero] at this; exact this
      · have := hcell 1 (by decide); rw [add_pos _ 1 (by decide)] at this; exact this
      · have := hcell 2 (by decide); rw [add_pos _ 2 (by decide)] at this; exact this
      · have := hcell 3 (by decide); rw [add_pos _ 3 (by decide)] at this; exact this
      · have := hcell 4 (by decide); rw [add_pos _ 4 (by decide)] at this; exact this
      · have := hcell 5 (by decide); rw [add_pos _ 5 (by decide)] at this; exact this
      · have := hcell 6 (by decide); rw [add_pos _ 6 (by decide)] at this; exact this
      · rw [hx]
        simp only [List.map_cons, List.map_nil, Rows.uptoBulk, Rows.uptoBulkAll]
        show 1 + args.length ≤ _
        omega
theorem cnt_map (f : Nat → Ins) : ∀ n : Nat, cnt ((List.range n).map f) = ((List.range n).map fun i => 1 + (f i).args.length).sum
  | 0 => rfl
  | n + 1 => by rw [List.range_succ, List.map_append, List.map_append, List.sum_append, ← cnt_map f n, List.map_singleton, cnt_snoc]; simp; omega
theorem open_code {n : Nat} {c : Value} {y : DataW H × List MemPlace} (h : DataW.trod enc Try.prog W 0 sp held n 42 [c] = some y) :
    ∃ l : List Ins, CodeAt W.heap.size W c l ∧ (∀ i (h : i < l.length), InsOk W l[i]) ∧ cnt l ≤ Rows.uptoBulk y.1 := by
  rcases open_slice Try.underlying42 h with ⟨hc, hx⟩ | ⟨a, len, cap, m, n', D, Pl, hc, hb, hl, hm, hmm, hx, hi⟩
  · exact ⟨[], ⟨none, 0, (List.cons.inj hc).1, Nat.le_refl _, Nat.zero_le _, fun i h => absurd h (Nat.not_lt_zero i)⟩, fun i h => absurd h (Nat.not_lt_zero i), Nat.zero_le _⟩
  · have lm : len ≤ m := by rw [hmm]; split <;> omega
    rw [cellsInstr] at hi
    obtain ⟨f, hf⟩ := choose_lt (α := Ins) (p := fun i d => InsAt W (a.add (i * 7)) d ∧ InsOk W d ∧ 1 + d.args.length ≤ Rows.uptoBulk (D i)) (n := len) (fun i hi2 => by
      obtain ⟨cs', h1, h2⟩ := hi i (by omega)
      exact open_ins h1 h2)
    refine ⟨(List.range len).map f, ⟨some a, cap, by simp [(List.cons.inj hc).1], by simpa using hl, hm, fun i h => ?_⟩, fun i h => ?_, ?_⟩
    · have hi2 : i < len := by simpa using h
      refine ⟨a, rfl, ?_, ?_⟩
      · have := block_lt (hf i hi2).1.1; rwa [add_block] at this
      · simpa using (hf i hi2).1
    · have hi2 : i < len := by simpa using h
      simpa using (hf i hi2).2.1
    · subst hx
      have h1 := bulk_sum D (fun i => 1 + (f i).args.length) len (fun i hi => (hf i hi).2.2)
      have h2 := bulk_slice ((List.range len).map D) ((List.range (m - len)).map fun j => D (len + j))
      rw [cnt_map]
      exact Nat.le_trans h1 h2
theorem cnt_app (l m : List Ins) : cnt (l ++ m) = cnt l + cnt m := by unfold cnt; rw [argsNum_app, List.length_append]; omega
theorem cnt_flat (f : Nat → List Ins) : ∀ n : Nat, cnt ((List.range n).map f).flatten = ((List.range n).map fun i => cnt (f i)).sum
  | 0 => rfl
  | n + 1 => by rw [List.range_succ, List.map_append, List.map_append, List.sum_append, List.flatten_append, cnt_app, cnt_flat f n]; simp
set_option maxRecDepth 100000 in
theorem open_blocks {n : Nat} {c : Value} {y : DataW H × List MemPlace} (h : DataW.trod enc Try.prog W 0 sp held n 39 [c] = some y) :
    ∃ l : List (List Ins), BlocksAt W.heap.size W c l ∧ (∀ b (h : b < l.length) k (hk : k < l[b].length), InsOk W l[b][k]) ∧ cnt l.flatten ≤ Rows.uptoBulk y.1 := by
  rcases open_slice Try.underlying39 h with ⟨hc, hx⟩ | ⟨a, len, cap, m, n', D, Pl, hc, hb, hl, hm, hmm, hx, hi⟩
  · exact ⟨[], ⟨none, 0, (List.cons.inj hc).1, Nat.le_refl _, Nat.zero_le _, fun i h => absurd h (Nat.not_lt_zero i)⟩, fun i h => absurd h (Nat.not_lt_zero i), Nat.zero_le _⟩
  · have lm : len ≤ m := by rw [hmm]; split <;> omega
    rw [cellsBlock] at hi
    obtain ⟨f, hf⟩ := choose_lt (α := Value × List Ins) (p := fun i x => W.cell? (a.add i) = some x.1 ∧ CodeAt W.heap.size W x.1 x.2 ∧ (∀ k (h : k < x.2.length), InsOk W x.2[k]) ∧ cnt x.2 ≤ Rows.uptoBulk (D i)) (n := len) (fun i hi2 => by
      obtain ⟨cs', h1, h2⟩ := hi i (by omega)
      obtain ⟨_, hlen, hcell⟩ := World.cells?_some h1
      obtain ⟨xs, k, _, hx1, _, hxl, hg⟩ := DataW.trod_struct Try.underlying67 h2
      have cc := cellsCode
      match cs', hlen with
      | [v0], _ =>
        match xs, hxl with
        | [y0], _ =>
          have g0 := hg 0 _ rfl
          simp [cc] at g0
          obtain ⟨l, l1, l2, l3⟩ := open_code g0
          refine ⟨(v0, l), ?_, l1, l2, ?_⟩
          · have := hcell 0 (by decide); rw [add_zero, Nat.mul_one] at this; exact this
          · have e : D i = .agg [y0.1] := by have := congrArg Prod.fst hx1; simpa using this
            rw [e]
            simp only [Rows.uptoBulk, Rows.uptoBulkAll]
            exact Nat.le_trans l3 (by omega))
    refine ⟨(List.range len).map fun i => (f i).2, ⟨some a, cap, by simp [(List.cons.inj hc).1], by simpa using hl, hm, fun i h => ?_⟩, fun i h k hk => ?_, ?_⟩
    · have hi2 : i < len := by simpa using h
      refine ⟨a, (f i).1, rfl, ?_, (hf i hi2).1, ?_⟩
      · have := block_lt (hf i hi2).1; rwa [add_block] at this
      · simpa using (hf i hi2).2.1
    · have hi2 : i < len := by simpa using h
      have e : ((List.range len).map fun i => (f i).2)[i] = (f i).2 := by simp
      have hk2 : k < (f i).2.length := by rw [← e]; exact hk
      have := (hf i hi2).2.2.1 k hk2
      simpa using this
    · subst hx
      have h1 := bulk_sum D (fun i => cnt (f i).2) len (fun i hi => (hf i hi).2.2.2)
      have h2 := bulk_slice ((List.range len).map D) ((List.range (m - len)).map fun j => D (len + j))
      rw [cnt_flat]
      exact Nat.le_trans h1 h2
/-- What an argument's reading as a function gives. -/
structure FuncOk (W : World) (s0 : ByteArray) (p1 : Option Addr) (n1 c1 : Nat) (rt : Int) (p2 : Option Addr) (n2 c2 : Nat) (l : List (List Ins)) : Prop where
  blocks : BlocksAt W.heap.size W (.slice p2 n2 c2) l
  ins : ∀ b (h : b < l.length) k (hk : k < l[b].length), InsOk W l[b][k]
theorem FuncOk.args {W : World} {s0 : ByteArray} {p1 : Option Addr} {n1 c1 : Nat} {rt : Int} {p2 : Option Addr} {n2 c2 : Nat} {l : List (List Ins)} (h : FuncOk W s0 p1 n1 c1 rt p2 n2 c2 l) : AllArgs W.heap.size W l := fun b hb k hk => (h.ins b hb k hk).1
set_option maxRecDepth 100000 in
theorem open_func {r : Reach} {b0 : Nat} {v : Value} {d : DataW H} {p : List MemPlace} (hv : Value.okWide Try.prog W r b0 41 v) (h : DataW.Trod enc Try.prog W 0 sp held 41 v d p) :
    ∃ (s0 : ByteArray) (p1 : Option Addr) (n1 c1 : Nat) (rt : Int) (p2 : Option Addr) (n2 c2 : Nat) (l : List (List Ins)), v = .agg #[.string s0, .slice p1 n1 c1, .int .i64 rt, .slice p2 n2 c2] ∧ FuncOk W s0 p1 n1 c1 rt p2 n2 c2 l ∧ cnt l.flatten + n1 ≤ Rows.uptoBulk d := by
  obtain ⟨cs, rfl, hsz⟩ := okWide_struct Try.underlying41 hv
  have hC := cellsFunc
  have c3 := cellsInt
  have c22 := cellsBlocks
  have c23 := cellsInts
  have c9 := cellsString
  obtain ⟨ls⟩ := cs
  match ls, hsz.trans hC with
  | [v0, v1, v2, v3], _ =>
    obtain ⟨fuel, hf⟩ := h
    obtain ⟨xs, n, _, hx, _, hlen, hg⟩ := DataW.trod_struct Try.underlying41 hf
    match xs, hlen with
    | [y0, y1, y2, y3], _ =>
      have g0 := hg 0 _ rfl
      have g1 := hg 1 _ rfl
      have g2 := hg 2 _ rfl
      have g3 := hg 3 _ rfl
      simp [Value.cells, c3, c22, c23, c9] at g0 g1 g2 g3
      obtain ⟨s0, rfl⟩ : ∃ s0 : ByteArray, v0 = .string s0 := by
        obtain ⟨s0, h1, _⟩ := DataW.trod_string Try.underlying9 g0
        exact ⟨s0, (List.cons.inj h1).1⟩
      obtain ⟨k2, rfl, _⟩ := tr_int g2
      obtain ⟨p1, n1, c1, rfl, hn1⟩ : ∃ (p : Option Addr) (l k : Nat), v1 = .slice p l k ∧ l ≤ Rows.uptoBulk y1.1 := by
        rcases open_slice Try.underlying23 g1 with ⟨h0, _⟩ | ⟨a, len, cap, m, _, D, _, h0, _, _, _, _, hx1, _⟩
        · exact ⟨none, 0, 0, (List.cons.inj h0).1, Nat.zero_le _⟩
        · refine ⟨some a, len, cap, (List.cons.inj h0).1, ?_⟩
          rw [hx1]
          have h1 := bulk_sum D (fun _ => 1) len (fun i _ => bulk_pos _)
          have h2 := bulk_slice ((List.range len).map D) ((List.range (m - len)).map fun j => D (len + j))
          have e := sum_ones len
          show len ≤ Rows.uptoBulk (.slice _ _)
          omega
      obtain ⟨l, l1, l2, l3⟩ := open_blocks g3
      obtain ⟨p2, c2, rfl, _⟩ := id l1
      refine ⟨s0, p1, n1, c1, k2, p2, l.length, c2, l, rfl, ⟨l1, l2⟩, ?_⟩
      have e : d = .agg [y0.1, y1.1, y2.1, y3.1] := by have := congrArg Prod.fst hx; simpa using this
      rw [e]
      simp only [Rows.uptoBulk, Rows.uptoBulkAll]
      omega
end
end Go.Proofs.Ytpfeiolmkbibiaa
