/- What this seat takes of layer 2's texts (BaseB) -/
import Derived.Test.YtpjfkmaceaikbaaBaseA
import Derived.OwnWalk
import Derived.Laws.CopyOwn
import Derived.Lib.BufferMore
import Derived.Deep.Heap
import Derived.Deep.Onto
import Derived.Deep.MidRow
namespace Go.Proofs.Ytpjfkmaceaikbaa
open Go.RowKit Go.Maps Go.ChangeShapes Go.WideShapes Go.Deep
set_option linter.unusedVariables false
set_option linter.unusedSimpArgs false

/-- copy, of elements of m cells, into a row that is known whole. -/
theorem run_copy_wide (P : Program) (w : World) (dT sT ty elem : TypeId) (m : Nat) (g o dLen dCap : Nat) (a : Addr) (sLen sCap : Nat) (cur : Array Value) (t : TypeId) (n : Nat) (cs : List Value)
    (hu : P.underlying dT = some (.slice elem)) (hs : (P.info? elem).map (·.size) = some m)
    (hg : w.heap[g]? = some (.cells cur t (0, 0))) (hn : Nat.min sLen dLen = n) (hcs : cs.length = n * m)
    (hsrc : ∀ j v, cs[j]? = some v → w.cell? (a.add j) = some v) (hfit : o + cs.length ≤ cur.size) (h1 : ∀ v ∈ cs, v.oneCell' = true) :
    (Builtin.copy_ #[dT, sT] ty #[.slice (some ⟨g, o, none⟩) dLen dCap, .slice (some a) sLen sCap]).run P w =
      .ok (goInt n) (w.setRow g (cur.toList.take o ++ (cs ++ cur.toList.drop (o + cs.length))).toArray) := by
  have hl := run_loadCells_list (P := P) w a cs hsrc
  have hst := run_storeCells_at P g o t cs 0 cur w hg (by simpa using hfit) h1
  rw [hcs] at hl
  cases hq : P.info? elem with
  | none => simp [hq] at hs
  | some i =>
    have hi : i.size = m := by simpa [hq] using hs
    simp [Builtin.copy_, run_underlying hu, Builtin.lenOf, Builtin.firstCells, sizeOf, typeInfo, hq, hi, hn, hl, hst]
theorem wpList_copy_wide {P : Program} {w : World} {ops : Array Oper} {rest : List Oper} {o : Oper} {a : Act} {Q : Exit → Act → World → Prop} (hgd : o.guard = none) (d s : Operand) (dT sT : TypeId)
    (ho : o.op = .call { callee := .builtin .copy, args := #[d, s], argTypes := #[dT, sT] }) (elem : TypeId) (m : Nat) (hu : P.underlying dT = some (.slice elem)) (hsz : (P.info? elem).map (·.size) = some m)
    (B g n dCap : Nat) (ad : Addr) (sCap : Nat) (hd : a.eval d = .slice (some ⟨g, 0, none⟩) n dCap) (hs : a.eval s = .slice (some ad) n sCap)
    (zs : List Value) (hown : w.ownsRow B elem m (.slice (some ⟨g, 0, none⟩) n n) n zs) (cs : List Value) (hn : cs.length = n * m)
    (hsrc : ∀ j v, cs[j]? = some v → w.cell? (ad.add j) = some v) (h1 : ∀ v ∈ cs, v.oneCell' = true)
    (h : ∀ w', w'.ownsRow B elem m (.slice (some ⟨g, 0, none⟩) n n) n cs → w.grownBy w' (some g) → wpList P ops Q rest (a.put o.dst (goInt n)) w') : wpList P ops Q (o :: rest) a w := by
  refine wpList_plain hgd fun K hK => ?_
  obtain ⟨hz, h0 | ⟨g', cap, cur, e, hB, hg, hc1, hc2, hsize, htake⟩⟩ := hown
  · exact absurd h0.1 (by simp)
  · injection e with e1 e2 e3
    injection e1 with e1
    injection e1 with e1
    subst e1 e3
    have hrun := run_copy_wide P w dT sT o.type elem m g 0 n dCap ad n sCap cur elem n cs hu hsz hg (Nat.min_self n) hn hsrc (by rw [hn, hsize]; omega) h1
    unfold Oper.wp
    simp [execOp, ho, resolve, invoke, builtin, hd, hs, hrun, Result.andThen]
    have e0 : cs ++ cur.toList.drop cs.length = cs := by
      rw [List.drop_eq_nil_of_le (by rw [Array.length_toList, hn, hsize]; exact Nat.le_refl _), List.append_nil]
    refine hK _ _ (h _ ⟨hn, .inr ⟨g, n, cs.toArray, rfl, hB, ?_, Nat.le_refl _, hc2, by simpa using hn, by rw [← hn]; simp⟩⟩ ⟨rfl, rfl, rfl, by simp [World.setRow], fun k hk hne => setRow_other w g k _ (fun e => hne (by rw [e]))⟩)
    have := setRow_heap w g cur cs.toArray elem (0, 0) hg
    simpa [e0] using this
theorem infoOf_V : (Try.prog.info? 29).map (fun i => (i.zero, i.size, i.bytes)) = some (some (.agg #[.int .i64 0, .int .i64 0, .int .u64 0]), 3, 24) := by kernel_rfl
theorem infoOf_N : (Try.prog.info? 3).map (fun i => (i.zero, i.size, i.bytes)) = some (some (.int .i64 0), 1, 8) := by kernel_rfl
theorem infoOf_C : (Try.prog.info? 25).map (fun i => (i.zero, i.size, i.bytes)) = some (some (.agg #[.int .i64 0, .int .i64 0, .int .i64 0, .int .i64 0, .int .i64 0, .slice none 0 0, .slice none 0 0]), 7, 88) := by kernel_rfl
/-- A list of ints, below B. -/
def IntsAt (B : Nat) (w : World) (p : Option Addr) (n c : Nat) (ts : List Int) : Prop :=
  ts.length = n ∧ n ≤ c ∧ c ≤ maxLen ∧ ∀ i (h : i < ts.length), ∃ a, p = some a ∧ a.block < B ∧ w.cell? (a.add i) = some (.int .i64 ts[i])
theorem IntsAt.below {B : Nat} {W w : World} {p : Option Addr} {n c : Nat} {ts : List Int} (h : IntsAt B W p n c ts) (hb : Below B W w) : IntsAt B w p n c ts := by
  obtain ⟨h1, h2, h3, h4⟩ := h
  refine ⟨h1, h2, h3, fun i hi => ?_⟩
  obtain ⟨a, e, ha, hI⟩ := h4 i hi
  exact ⟨a, e, ha, (hb.cell (p := a.add i) (by rw [add_block]; exact ha)).trans hI⟩
def cntT (l : List Ins) : Nat := (l.map fun d => 1 + d.args.length + d.tl).sum
theorem cnt_le (l : List Ins) : cnt l ≤ cntT l := by
  unfold cnt cntT argsNum
  induction l with
  | nil => exact Nat.le_refl _
  | cons d l ih => simp only [List.map_cons, List.sum_cons, List.length_cons]; omega
/-- What an instruction's reading gives. -/
def InsOk2 (W : World) (d : Ins) : Prop := InsOk W d ∧ ∃ ts : List Int, IntsAt W.heap.size W d.tp d.tl d.tc ts
section
variable {H : Type} {enc : TypeId × Value → H} {W : World} {sp : Nat → Bool} {held : Bool}
theorem open_ints {n : Nat} {c : Value} {y : DataW H × List MemPlace} (h : DataW.trod enc Try.prog W 0 sp held n 23 [c] = some y) :
    ∃ (p : Option Addr) (k : Nat) (ts : List Int), c = .slice p ts.length k ∧ IntsAt W.heap.size W p ts.length k ts ∧ ts.length ≤ Rows.uptoBulk y.1 := by
  rcases open_slice Try.underlying23 h with ⟨hc, hx⟩ | ⟨a, len, cap, m, n', D, Pl, hc, hb, hl, hm, hmm, hx, hi⟩
  · exact ⟨none, 0, [], (List.cons.inj hc).1, ⟨rfl, Nat.le_refl _, Nat.zero_le _, fun i h => absurd h (Nat.not_lt_zero i)⟩, Nat.zero_le _⟩
  · have lm : len ≤ m := by rw [hmm]; split <;> omega
    rw [cellsInt] at hi
    obtain ⟨f, hf⟩ := choose_lt (α := Int) (p := fun i v => W.cell? (a.add i) = some (.int .i64 v)) (n := len) (fun i hi2 => by
      obtain ⟨cs', h1, h2⟩ := hi i (by omega)
      obtain ⟨_, hlen, hcell⟩ := World.cells?_some h1
      match cs', hlen with
      | [v0], _ =>
        obtain ⟨k, rfl, _⟩ := tr_int h2
        have := hcell 0 (by decide)
        rw [add_zero, Nat.mul_one] at this
        exact ⟨k, this⟩)
    refine ⟨some a, cap, (List.range len).map f, by simp [(List.cons.inj hc).1], ⟨rfl, by simpa using hl, hm, fun i h => ?_⟩, ?_⟩
    · have hi2 : i < len := by simpa using h
      refine ⟨a, rfl, ?_, by simpa using hf i hi2⟩
      have := block_lt (hf i hi2); rwa [add_block] at this
    · subst hx
      have h1 := bulk_sum D (fun _ => 1) len (fun i _ => bulk_pos _)
      have h2 := bulk_slice ((List.range len).map D) ((List.range (m - len)).map fun j => D (len + j))
      have e := sum_ones len
      simp only [List.length_map, List.length_range]
      omega
set_option maxRecDepth 100000 in
theorem open_ins2 {n : Nat} {a : Addr} {i : Nat} {cs : List Value} {y : DataW H × List MemPlace} (h1 : W.cells? 0 (a.add (i * 7)) 7 = some cs) (h2 : DataW.trod enc Try.prog W 0 sp held n 25 cs = some y) :
    ∃ d : Ins, InsAt W (a.add (i * 7)) d ∧ InsOk2 W d ∧ 1 + d.args.length + d.tl ≤ Rows.uptoBulk y.1 := by
  obtain ⟨_, hlen, hcell⟩ := World.cells?_some h1
  obtain ⟨xs, k, _, hx, _, hxl, hg⟩ := DataW.trod_struct Try.underlying25 h2
  have c3 := cellsInt
  have c22 := cellsVals
  have c23 := cellsInts
  match cs, hlen with
  | [v0, v1, v2, v3, v4, v5, v6], _ =>
    match xs, hxl with
    | [y0, y1, y2, y3, y4, y5, y6], _ =>
      have g0 := hg 0 _ rfl
      have g1 := hg 1 _ rfl
      have g2 := hg 2 _ rfl
      have g3 := hg 3 _ rfl
      have g4 := hg 4 _ rfl
      have g5 := hg 5 _ rfl
      have g6 := hg 6 _ rfl
      simp [c3, c22, c23] at g0 g1 g2 g3 g4 g5 g6
      obtain ⟨k0, rfl, _⟩ := tr_int g0
      obtain ⟨k1, rfl, w1⟩ := tr_int g1
      obtain ⟨k2, rfl, _⟩ := tr_int g2
      obtain ⟨k3, rfl, _⟩ := tr_int g3
      obtain ⟨k4, rfl, _⟩ := tr_int g4
      obtain ⟨ap, ac, args, rfl, a1, a2, a3, a4, a5⟩ := open_args g5
      obtain ⟨tp, tc, ts, rfl, t1, t2⟩ := open_ints g6
      refine ⟨⟨k0, k1, k2, k3, k4, ap, args.length, ac, tp, ts.length, tc, args⟩, ⟨?_, ?_, ?_, ?_, ?_, ?_, ?_⟩, ⟨⟨⟨rfl, a1, a2, a3⟩, w1, a4⟩, ts, t1⟩, ?_⟩
      · have := hcell 0 (by decide); rw [add_zero] at this; exact this
      · have := hcell 1 (by decide); rw [add_pos _ 1 (by decide)] at this; exact this
      · have := hcell 2 (by decide); rw [add_pos _ 2 (by decide)] at this; exact this
      · have := hcell 3 (by decide); rw [add_pos _ 3 (by decide)] at this; exact this
      · have := hcell 4 (by decide); rw [add_pos _ 4 (by decide)] at this; exact this
      · have := hcell 5 (by decide); rw [add_pos _ 5 (by decide)] at this; exact this
      · have := hcell 6 (by decide); rw [add_pos _ 6 (by decide)] at this; exact this
      · rw [hx]
        simp only [List.map_cons, List.map_nil, Rows.uptoBulk, Rows.uptoBulkAll]
        show 1 + args.length + ts.length ≤ _
        omega
theorem cntT_map (f : Nat → Ins) (n : Nat) : cntT ((List.range n).map f) = ((List.range n).map fun i => 1 + (f i).args.length + (f i).tl).sum := by unfold cntT; rw [List.map_map]; rfl
theorem cntT_app (l m : List Ins) : cntT (l ++ m) = cntT l + cntT m := by unfold cntT; rw [List.map_append, List.sum_append]
theorem cntT_flat (f : Nat → List Ins) : ∀ n : Nat, cntT ((List.range n).map f).flatten = ((List.range n).map fun i => cntT (f i)).sum
  | 0 => rfl
  | n + 1 => by rw [List.range_succ, List.map_append, List.map_append, List.sum_append, List.flatten_append, cntT_app, cntT_flat f n]; simp
/-- What an argument's reading as a function gives. -/
structure FuncOk2 (W : World) (s0 : ByteArray) (p1 : Option Addr) (n1 c1 : Nat) (rt : Int) (p2 : Option Addr) (n2 c2 : Nat) (l : List (List Ins)) : Prop where
  blocks : BlocksAt W.heap.size W (.slice p2 n2 c2) l
  ins : ∀ b (h : b < l.length) k (hk : k < l[b].length), InsOk2 W l[b][k]
  params : ∃ ts : List Int, IntsAt W.heap.size W p1 n1 c1 ts
theorem FuncOk2.ok {W : World} {s0 : ByteArray} {p1 : Option Addr} {n1 c1 : Nat} {rt : Int} {p2 : Option Addr} {n2 c2 : Nat} {l : List (List Ins)} (h : FuncOk2 W s0 p1 n1 c1 rt p2 n2 c2 l) : FuncOk W s0 p1 n1 c1 rt p2 n2 c2 l := ⟨h.blocks, fun b x k y => (h.ins b x k y).1⟩
end
def argC (v : Arg) : List Value := [.int .i64 v.kind, .int .i64 v.n, .int .u64 v.bits]
theorem argC_one (l : List Arg) : ∀ u ∈ l.flatMap argC, u.oneCell' = true := by
  intro u hu
  obtain ⟨v, _, h⟩ := List.mem_flatMap.1 hu
  unfold argC at h
  simp at h
  rcases h with rfl | rfl | rfl <;> rfl
theorem argC_len (l : List Arg) : (l.flatMap argC).length = l.length * 3 := by
  induction l with
  | nil => rfl
  | cons v l ih => rw [List.flatMap_cons, List.length_append, ih, List.length_cons]; simp [argC]; omega
theorem add_add (a : Addr) (m r : Nat) (hr : r ≠ 0) : a.add (m + r) = ⟨(a.add m).block, (a.add m).off + r, none⟩ := by
  rw [add_pos a (m + r) (by omega)]
  by_cases hm : m = 0
  · subst hm; rw [add_zero, Nat.zero_add]
  · rw [add_pos a m hm]; simp [Nat.add_assoc]
theorem args_cells {B : Nat} {W : World} {d : Ins} (h : ArgsAt B W d) : ∀ j u, (d.args.flatMap argC)[j]? = some u → ∃ a, d.ap = some a ∧ W.cell? (a.add j) = some u := by
  intro j u hu
  have hj : j < d.args.length * 3 := by rw [← argC_len]; exact (List.getElem?_eq_some_iff.1 hu).1
  obtain ⟨i, r, rfl, hr⟩ : ∃ i r, j = i * 3 + r ∧ r < 3 := ⟨j / 3, j % 3, by omega, by omega⟩
  have hi : i < d.args.length := by omega
  rw [flat_get argC 3 (fun _ => rfl) d.args i hi r hr] at hu
  obtain ⟨a, e, ha, h0, h1, h2⟩ := h.2.2.2 i hi
  refine ⟨a, e, ?_⟩
  rcases (show r = 0 ∨ r = 1 ∨ r = 2 by omega) with rfl | rfl | rfl
  · rw [Nat.add_zero, h0]; exact hu
  · rw [add_add a _ 1 (by decide), h1]; exact hu
  · rw [add_add a _ 2 (by decide), h2]; exact hu
theorem ints_cells {B : Nat} {W : World} {p : Option Addr} {n c : Nat} {ts : List Int} (h : IntsAt B W p n c ts) : ∀ j u, (ts.map (Value.int .i64))[j]? = some u → ∃ a, p = some a ∧ W.cell? (a.add j) = some u := by
  intro j u hu
  have hj : j < ts.length := by have := (List.getElem?_eq_some_iff.1 hu).1; simpa using this
  obtain ⟨a, e, ha, h0⟩ := h.2.2.2 j hj
  refine ⟨a, e, ?_⟩
  rw [h0, ← hu]
  simp [hj]
/-- The numbers of an instruction, with other lists. -/
def Ins.with (d : Ins) (ap : Option Addr) (ac : Nat) (tp : Option Addr) (tc : Nat) : Ins := { d with ap := ap, ac := ac, tp := tp, tc := tc }
/-- A block of seven cells of the call's own, that may be written. -/
def Sev (g : Nat) (x0 x1 x2 x3 x4 x5 x6 : Value) (w : World) : Prop :=
  g < w.heap.size ∧ (∀ i, w.frozen? ⟨g, i, none⟩ = false) ∧ w.cell? ⟨g, 0, none⟩ = some x0 ∧ w.cell? ⟨g, 1, none⟩ = some x1 ∧ w.cell? ⟨g, 2, none⟩ = some x2 ∧ w.cell? ⟨g, 3, none⟩ = some x3 ∧ w.cell? ⟨g, 4, none⟩ = some x4 ∧ w.cell? ⟨g, 5, none⟩ = some x5 ∧ w.cell? ⟨g, 6, none⟩ = some x6
theorem Sev.below {B g : Nat} {x0 x1 x2 x3 x4 x5 x6 : Value} {W w : World} (h : Sev g x0 x1 x2 x3 x4 x5 x6 W) (hb : Below B W w) (hg : g < B) : Sev g x0 x1 x2 x3 x4 x5 x6 w := by
  obtain ⟨h0, hf, h1, h2, h3, h4, h5, h6, h7⟩ := h
  exact ⟨Nat.lt_of_lt_of_le h0 hb.size, fun i => (hb.frozen (p := ⟨g, i, none⟩) hg).trans (hf i), (hb.cell (p := ⟨g, 0, none⟩) hg).trans h1, (hb.cell (p := ⟨g, 1, none⟩) hg).trans h2, (hb.cell (p := ⟨g, 2, none⟩) hg).trans h3, (hb.cell (p := ⟨g, 3, none⟩) hg).trans h4, (hb.cell (p := ⟨g, 4, none⟩) hg).trans h5, (hb.cell (p := ⟨g, 5, none⟩) hg).trans h6, (hb.cell (p := ⟨g, 6, none⟩) hg).trans h7⟩
theorem Sev.new (w : World) {g : Nat} (hg : g = w.heap.size) (x0 x1 x2 x3 x4 x5 x6 : Value) (t : TypeId) : Sev g x0 x1 x2 x3 x4 x5 x6 (w.alloc (.cells #[x0, x1, x2, x3, x4, x5, x6] t)) := by
  subst hg
  exact ⟨by simp, fun i => World.frozen?_alloc_at _ _ _ _ rfl, by rw [World.cell?_alloc_at _ _ _ _ rfl]; rfl, by rw [World.cell?_alloc_at _ _ _ _ rfl]; rfl, by rw [World.cell?_alloc_at _ _ _ _ rfl]; rfl, by rw [World.cell?_alloc_at _ _ _ _ rfl]; rfl, by rw [World.cell?_alloc_at _ _ _ _ rfl]; rfl, by rw [World.cell?_alloc_at _ _ _ _ rfl]; rfl, by rw [World.cell?_alloc_at _ _ _ _ rfl]; rfl⟩
theorem Sev.other {g : Nat} {x0 x1 x2 x3 x4 x5 x6 : Value} {w : World} (h : Sev g x0 x1 x2 x3 x4 x5 x6 w) {d : Nat} (hd : d ≠ g) (i : Nat) (v : Value) : Sev g x0 x1 x2 x3 x4 x5 x6 (w.setCell ⟨d, i, none⟩ v) := by
  obtain ⟨h0, hf, h1, h2, h3, h4, h5, h6, h7⟩ := h
  exact ⟨by simpa [World.setCell] using h0, fun i => by rw [World.frozen?_setCell]; exact hf i, by rw [World.cell?_setCell_other (h := fun e => hd (by injection e))]; exact h1, by rw [World.cell?_setCell_other (h := fun e => hd (by injection e))]; exact h2, by rw [World.cell?_setCell_other (h := fun e => hd (by injection e))]; exact h3, by rw [World.cell?_setCell_other (h := fun e => hd (by injection e))]; exact h4, by rw [World.cell?_setCell_other (h := fun e => hd (by injection e))]; exact h5, by rw [World.cell?_setCell_other (h := fun e => hd (by injection e))]; exact h6, by rw [World.cell?_setCell_other (h := fun e => hd (by injection e))]; exact h7⟩
theorem Sev.set0 {g : Nat} {x0 x1 x2 x3 x4 x5 x6 : Value} {w : World} (h : Sev g x0 x1 x2 x3 x4 x5 x6 w) (y : Value) : Sev g y x1 x2 x3 x4 x5 x6 (w.setCell ⟨g, 0, none⟩ y) := by
  obtain ⟨h0, hf, h1, h2, h3, h4, h5, h6, h7⟩ := h
  exact ⟨by simpa [World.setCell] using h0, fun i => by rw [World.frozen?_setCell]; exact hf i, by rw [World.cell?_setCell_same' _ _ _ (by rw [h1]; rfl)], by rw [World.cell?_setCell_other (h := fun e => absurd (congrArg Addr.off e) (show ¬ (0 : Nat) = 1 by decide))]; exact h2, by rw [World.cell?_setCell_other (h := fun e => absurd (congrArg Addr.off e) (show ¬ (0 : Nat) = 2 by decide))]; exact h3, by rw [World.cell?_setCell_other (h := fun e => absurd (congrArg Addr.off e) (show ¬ (0 : Nat) = 3 by decide))]; exact h4, by rw [World.cell?_setCell_other (h := fun e => absurd (congrArg Addr.off e) (show ¬ (0 : Nat) = 4 by decide))]; exact h5, by rw [World.cell?_setCell_other (h := fun e => absurd (congrArg Addr.off e) (show ¬ (0 : Nat) = 5 by decide))]; exact h6, by rw [World.cell?_setCell_other (h := fun e => absurd (congrArg Addr.off e) (show ¬ (0 : Nat) = 6 by decide))]; exact h7⟩
theorem Sev.set1 {g : Nat} {x0 x1 x2 x3 x4 x5 x6 : Value} {w : World} (h : Sev g x0 x1 x2 x3 x4 x5 x6 w) (y : Value) : Sev g x0 y x2 x3 x4 x5 x6 (w.setCell ⟨g, 1, none⟩ y) := by
  obtain ⟨h0, hf, h1, h2, h3, h4, h5, h6, h7⟩ := h
  exact ⟨by simpa [World.setCell] using h0, fun i => by rw [World.frozen?_setCell]; exact hf i, by rw [World.cell?_setCell_other (h := fun e => absurd (congrArg Addr.off e) (show ¬ (1 : Nat) = 0 by decide))]; exact h1, by rw [World.cell?_setCell_same' _ _ _ (by rw [h2]; rfl)], by rw [World.cell?_setCell_other (h := fun e => absurd (congrArg Addr.off e) (show ¬ (1 : Nat) = 2 by decide))]; exact h3, by rw [World.cell?_setCell_other (h := fun e => absurd (congrArg Addr.off e) (show ¬ (1 : Nat) = 3 by decide))]; exact h4, by rw [World.cell?_setCell_other (h := fun e => absurd (congrArg Addr.off e) (show ¬ (1 : Nat) = 4 by decide))]; exact h5, by rw [World.cell?_setCell_other (h := fun e => absurd (congrArg Addr.off e) (show ¬ (1 : Nat) = 5 by decide))]; exact h6, by rw [World.cell?_setCell_other (h := fun e => absurd (congrArg Addr.off e) (show ¬ (1 : Nat) = 6 by decide))]; exact h7⟩
theorem Sev.set2 {g : Nat} {x0 x1 x2 x3 x4 x5 x6 : Value} {w : World} (h : Sev g x0 x1 x2 x3 x4 x5 x6 w) (y : Value) : Sev g x0 x1 y x3 x4 x5 x6 (w.setCell ⟨g, 2, none⟩ y) := by
  obtain ⟨h0, hf, h1, h2, h3, h4, h5, h6, h7⟩ := h
  exact ⟨by simpa [World.setCell] using h0, fun i => by rw [World.frozen?_setCell]; exact hf i, by rw [World.cell?_setCell_other (h := fun e => absurd (congrArg Addr.off e) (show ¬ (2 : Nat) = 0 by decide))]; exact h1, by rw [World.cell?_setCell_other (h := fun e => absurd (congrArg Addr.off e) (show ¬ (2 : Nat) = 1 by decide))]; exact h2, by rw [World.cell?_setCell_same' _ _ _ (by rw [h3]; rfl)], by rw [World.cell?_setCell_other (h := fun e => absurd (congrArg Addr.off e) (show ¬ (2 : Nat) = 3 by decide))]; exact h4, by rw [World.cell?_setCell_other (h := fun e => absurd (congrArg Addr.off e) (show ¬ (2 : Nat) = 4 by decide))]; exact h5, by rw [World.cell?_setCell_other (h := fun e => absurd (congrArg Addr.off e) (show ¬ (2 : Nat) = 5 by decide))]; exact h6, by rw [World.cell?_setCell_other (h := fun e => absurd (congrArg Addr.off e) (show ¬ (2 : Nat) = 6 by decide))]; exact h7⟩
theorem Sev.set3 {g : Nat} {x0 x1 x2 x3 x4 x5 x6 : Value} {w : World} (h : Sev g x0 x1 x2 x3 x4 x5 x6 w) (y : Value) : Sev g x0 x1 x2 y x4 x5 x6 (w.setCell ⟨g, 3, none⟩ y) := by
  obtain ⟨h0, hf, h1, h2, h3, h4, h5, h6, h7⟩ := h
  exact ⟨by simpa [World.setCell] using h0, fun i => by rw [World.frozen?_setCell]; exact hf i, by rw [World.cell?_setCell_other (h := fun e => absurd (congrArg Addr.off e) (show ¬ (3 : Nat) = 0 by decide))]; exact h1, by rw [World.cell?_setCell_other (h := fun e => absurd (congrArg Addr.off e) (show ¬ (3 : Nat) = 1 by decide))]; exact h2, by rw [World.cell?_setCell_other (h := fun e => absurd (congrArg Addr.off e) (show ¬ (3 : Nat) = 2 by decide))]; exact h3, by rw [World.cell?_setCell_same' _ _ _ (by rw [h4]; rfl)], by rw [World.cell?_setCell_other (h := fun e => absurd (congrArg Addr.off e) (show ¬ (3 : Nat) = 4 by decide))]; exact h5, by rw [World.cell?_setCell_other (h := fun e => absurd (congrArg Addr.off e) (show ¬ (3 : Nat) = 5 by decide))]; exact h6, by rw [World.cell?_setCell_other (h := fun e => absurd (congrArg Addr.off e) (show ¬ (3 : Nat) = 6 by decide))]; exact h7⟩
theorem Sev.set4 {g : Nat} {x0 x1 x2 x3 x4 x5 x6 : Value} {w : World} (h : Sev g x0 x1 x2 x3 x4 x5 x6 w) (y : Value) : Sev g x0 x1 x2 x3 y x5 x6 (w.setCell ⟨g, 4, none⟩ y) := by
  obtain ⟨h0, hf, h1, h2, h3, h4, h5, h6, h7⟩ := h
  exact ⟨by simpa [World.setCell] using h0, fun i => by rw [World.frozen?_setCell]; exact hf i, by rw [World.cell?_setCell_other (h := fun e => absurd (congrArg Addr.off e) (show ¬ (4 : Nat) = 0 by decide))]; exact h1, by rw [World.cell?_setCell_other (h := fun e => absurd (congrArg Addr.off e) (show ¬ (4 : Nat) = 1 by decide))]; exact h2, by rw [World.cell?_setCell_other (h := fun e => absurd (congrArg Addr.off e) (show ¬ (4 : Nat) = 2 by decide))]; exact h3, by rw [World.cell?_setCell_other (h := fun e => absurd (congrArg Addr.off e) (show ¬ (4 : Nat) = 3 by decide))]; exact h4, by rw [World.cell?_setCell_same' _ _ _ (by rw [h5]; rfl)], by rw [World.cell?_setCell_other (h := fun e => absurd (congrArg Addr.off e) (show ¬ (4 : Nat) = 5 by decide))]; exact h6, by rw [World.cell?_setCell_other (h := fun e => absurd (congrArg Addr.off e) (show ¬ (4 : Nat) = 6 by decide))]; exact h7⟩
theorem Sev.set5 {g : Nat} {x0 x1 x2 x3 x4 x5 x6 : Value} {w : World} (h : Sev g x0 x1 x2 x3 x4 x5 x6 w) (y : Value) : Sev g x0 x1 x2 x3 x4 y x6 (w.setCell ⟨g, 5, none⟩ y) := by
  obtain ⟨h0, hf, h1, h2, h3, h4, h5, h6, h7⟩ := h
  exact ⟨by simpa [World.setCell] using h0, fun i => by rw [World.frozen?_setCell]; exact hf i, by rw [World.cell?_setCell_other (h := fun e => absurd (congrArg Addr.off e) (show ¬ (5 : Nat) = 0 by decide))]; exact h1, by rw [World.cell?_setCell_other (h := fun e => absurd (congrArg Addr.off e) (show ¬ (5 : Nat) = 1 by decide))]; exact h2, by rw [World.cell?_setCell_other (h := fun e => absurd (congrArg Addr.off e) (show ¬ (5 : Nat) = 2 by decide))]; exact h3, by rw [World.cell?_setCell_other (h := fun e => absurd (congrArg Addr.off e) (show ¬ (5 : Nat) = 3 by decide))]; exact h4, by rw [World.cell?_setCell_other (h := fun e => absurd (congrArg Addr.off e) (show ¬ (5 : Nat) = 4 by decide))]; exact h5, by rw [World.cell?_setCell_same' _ _ _ (by rw [h6]; rfl)], by rw [World.cell?_setCell_other (h := fun e => absurd (congrArg Addr.off e) (show ¬ (5 : Nat) = 6 by decide))]; exact h7⟩
theorem Sev.set6 {g : Nat} {x0 x1 x2 x3 x4 x5 x6 : Value} {w : World} (h : Sev g x0 x1 x2 x3 x4 x5 x6 w) (y : Value) : Sev g x0 x1 x2 x3 x4 x5 y (w.setCell ⟨g, 6, none⟩ y) := by
  obtain ⟨h0, hf, h1, h2, h3, h4, h5, h6, h7⟩ := h
  exact ⟨by simpa [World.setCell] using h0, fun i => by rw [World.frozen?_setCell]; exact hf i, by rw [World.cell?_setCell_other (h := fun e => absurd (congrArg Addr.off e) (show ¬ (6 : Nat) = 0 by decide))]; exact h1, by rw [World.cell?_setCell_other (h := fun e => absurd (congrArg Addr.off e) (show ¬ (6 : Nat) = 1 by decide))]; exact h2, by rw [World.cell?_setCell_other (h := fun e => absurd (congrArg Addr.off e) (show ¬ (6 : Nat) = 2 by decide))]; exact h3, by rw [World.cell?_setCell_other (h := fun e => absurd (congrArg Addr.off e) (show ¬ (6 : Nat) = 3 by decide))]; exact h4, by rw [World.cell?_setCell_other (h := fun e => absurd (congrArg Addr.off e) (show ¬ (6 : Nat) = 4 by decide))]; exact h5, by rw [World.cell?_setCell_other (h := fun e => absurd (congrArg Addr.off e) (show ¬ (6 : Nat) = 5 by decide))]; exact h6, by rw [World.cell?_setCell_same' _ _ _ (by rw [h7]; rfl)]⟩
theorem ownsRow_set {w : World} {B e s n : Nat} {v : Value} {xs : List Value} (h : w.ownsRow B e s v n xs) {a : Addr} (ha : a.block < B) (u : Value) : (w.setCell a u).ownsRow B e s v n xs := by
  refine ⟨h.1, ?_⟩
  rcases h.2 with hn | ⟨g, cap, cur, hv, hB, hg, h1, h2, h3, h4⟩
  · exact .inl hn
  · exact .inr ⟨g, cap, cur, hv, hB, (Go.Deep.blk_setCell_other w a u g (by omega)).trans hg, h1, h2, h3, h4⟩
theorem ownsRow_below {w w2 : World} {B e s n : Nat} {v : Value} {xs : List Value} (h : w.ownsRow B e s v n xs) (hb : Below w.heap.size w w2) : w2.ownsRow B e s v n xs := by
  have hlt := h.lt
  refine ⟨h.1, ?_⟩
  rcases h.2 with hn | ⟨g, cap, cur, hv, hB, hg, h1, h2, h3, h4⟩
  · exact .inl hn
  · have h5 : g < w.heap.size := (hlt g (by rw [hv]; rfl)).2
    exact .inr ⟨g, cap, cur, hv, hB, (hb.block g h5).trans hg, h1, h2, h3, h4⟩
theorem cells_later {W w : World} {p : Option Addr} {cs : List Value} (hx : ∀ j u, cs[j]? = some u → ∃ a, p = some a ∧ W.cell? (a.add j) = some u) (hb : Below W.heap.size W w) : ∀ j u, cs[j]? = some u → ∃ a, p = some a ∧ w.cell? (a.add j) = some u := fun j u h => by
  obtain ⟨a, e, hc⟩ := hx j u h
  exact ⟨a, e, (hb.cell (p := a.add j) (block_lt hc)).trans hc⟩
theorem mapC_one (l : List Int) : ∀ u ∈ l.map (Value.int .i64), u.oneCell' = true := by
  intro u hu
  obtain ⟨v, _, rfl⟩ := List.mem_map.1 hu
  rfl
theorem row_slice {w : World} {B : Nat} {e : TypeId} {m n : Nat} {v : Value} {xs : List Value} (h : w.ownsRow B e m v n xs) : ∃ (p : Option Addr) (c : Nat), v = .slice p n c := by
  rcases h.2 with ⟨rfl, rfl⟩ | ⟨g, cap, cur, rfl, _⟩
  · exact ⟨none, 0, rfl⟩
  · exact ⟨_, cap, rfl⟩
/-- The blocks from a on, ahead of b, are as they were. -/
def Stay (a b : Nat) (w w' : World) : Prop := ∀ k, a ≤ k → k < b → w'.heap[k]? = w.heap[k]?
theorem Stay.refl (a b : Nat) (w : World) : Stay a b w w := fun _ _ _ => rfl
theorem Stay.trans {a b : Nat} {u v w : World} (h : Stay a b u v) (k : Stay a b v w) : Stay a b u w := fun i x y => (k i x y).trans (h i x y)
theorem Stay.mono {a b a' b' : Nat} {w w' : World} (h : Stay a b w w') (ha : a ≤ a') (hb : b' ≤ b) : Stay a' b' w w' := fun k x y => h k (Nat.le_trans ha x) (Nat.lt_of_lt_of_le y hb)
theorem below_stay {B a b : Nat} {w w' : World} (h : Below B w w') (hb : b ≤ B) : Stay a b w w' := fun k _ y => h.block k (Nat.lt_of_lt_of_le y hb)
theorem Past.stay {B a b : Nat} {w w' : World} (h : Past B w w') (hb : b ≤ B) : Stay a b w w' := below_stay h.2 hb
/-- For each element memory of its own, one range behind the other, none of them holds g. -/
def Spread {α : Type} (Q : Nat → Nat → World → α → Prop) (g : Option Nat) : Nat → Nat → World → List α → Prop
  | lo, hi, _, [] => lo ≤ hi
  | lo, hi, w, x :: xs => ∃ a b, lo ≤ a ∧ a ≤ b ∧ (∀ k, g = some k → k < a ∨ b ≤ k) ∧ Q a b w x ∧ Spread Q g b hi w xs
section
variable {α : Type} {Q : Nat → Nat → World → α → Prop} {g : Option Nat}
theorem Spread.le : ∀ {xs : List α} {lo hi : Nat} {w : World}, Spread Q g lo hi w xs → lo ≤ hi
  | [], _, _, _, h => h
  | x :: xs, lo, hi, w, ⟨a, b, h1, h2, _, _, h⟩ => by have := Spread.le h; omega
theorem Spread.up : ∀ {xs : List α} {lo hi hi' : Nat} {w : World}, Spread Q g lo hi w xs → hi ≤ hi' → Spread Q g lo hi' w xs
  | [], _, _, _, _, h, hh => Nat.le_trans h hh
  | x :: xs, _, _, _, _, ⟨a, b, h1, h2, h3, h4, h⟩, hh => ⟨a, b, h1, h2, h3, h4, Spread.up h hh⟩
theorem Spread.down {xs : List α} {lo lo' hi : Nat} {w : World} (h : Spread Q g lo hi w xs) (hl : lo' ≤ lo) : Spread Q g lo' hi w xs := by
  cases xs with
  | nil => exact Nat.le_trans hl h
  | cons x xs =>
    obtain ⟨a, b, h1, h2, h3, h4, h⟩ := h
    exact ⟨a, b, Nat.le_trans hl h1, h2, h3, h4, h⟩
/-- Q hangs on its range alone. -/
def Local (Q : Nat → Nat → World → α → Prop) : Prop := ∀ a b w w' x, Stay a b w w' → Q a b w x → Q a b w' x
theorem Spread.stay (hQ : Local Q) : ∀ {xs : List α} {lo hi : Nat} {w w' : World}, Spread Q g lo hi w xs → (∀ k, lo ≤ k → k < hi → g ≠ some k → w'.heap[k]? = w.heap[k]?) → Spread Q g lo hi w' xs
  | [], _, _, _, _, h, _ => h
  | x :: xs, lo, hi, w, w', ⟨a, b, h1, h2, h3, h4, h⟩, hs => by
    have hle := Spread.le h
    exact ⟨a, b, h1, h2, h3, hQ a b w w' x (fun k x y => hs k (by omega) (by omega) (fun e => by have := h3 k e; omega)) h4, Spread.stay hQ h (fun k x y e => hs k (by omega) y e)⟩
theorem Spread.snoc : ∀ {xs : List α} {lo hi a b : Nat} {w : World} {x : α}, Spread Q g lo hi w xs → hi ≤ a → a ≤ b → (∀ k, g = some k → k < a ∨ b ≤ k) → Q a b w x → Spread Q g lo b w (xs ++ [x])
  | [], lo, hi, a, b, w, x, h, h1, h2, h3, h4 => ⟨a, b, Nat.le_trans h h1, h2, h3, h4, Nat.le_refl b⟩
  | y :: xs, lo, hi, a, b, w, x, ⟨a', b', k1, k2, k3, k4, h⟩, h1, h2, h3, h4 => ⟨a', b', k1, k2, k3, k4, Spread.snoc h h1 h2 h3 h4⟩
/-- Another row's block: g may be any that lies in none of the ranges; so one at or behind hi. -/
theorem Spread.row : ∀ {xs : List α} {lo hi : Nat} {w : World} {g' : Option Nat}, Spread Q g lo hi w xs → (∀ k, g' = some k → hi ≤ k ∨ k < lo) → Spread Q g' lo hi w xs
  | [], _, _, _, _, h, _ => h
  | x :: xs, lo, hi, w, g', ⟨a, b, h1, h2, h3, h4, h⟩, hg => by
    have hle := Spread.le h
    exact ⟨a, b, h1, h2, fun k e => by have := hg k e; omega, h4, Spread.row h (fun k e => by have := hg k e; omega)⟩
/-- An element's own memory; what is done within it leaves the others'. -/
theorem Spread.at (hQ : Local Q) : ∀ {xs : List α} {lo hi : Nat} {w : World} (h : Spread Q g lo hi w xs) (i : Nat) (hi' : i < xs.length),
    ∃ a b, lo ≤ a ∧ a ≤ b ∧ b ≤ hi ∧ (∀ k, g = some k → k < a ∨ b ≤ k) ∧ Q a b w xs[i] ∧
      ∀ w' y, (∀ k, lo ≤ k → k < hi → g ≠ some k → (k < a ∨ b ≤ k) → w'.heap[k]? = w.heap[k]?) → Q a b w' y → Spread Q g lo hi w' (xs.set i y)
  | [], _, _, _, _, i, hi' => absurd hi' (Nat.not_lt_zero _)
  | x :: xs, lo, hi, w, ⟨a, b, h1, h2, h3, h4, h⟩, 0, _ => by
    have hle := Spread.le h
    exact ⟨a, b, h1, h2, hle, h3, h4, fun w' y hs hy => ⟨a, b, h1, h2, h3, hy, Spread.stay hQ h (fun k p q e => hs k (by omega) q e (Or.inr p))⟩⟩
  | x :: xs, lo, hi, w, ⟨a, b, h1, h2, h3, h4, h⟩, i + 1, hi' => by
    obtain ⟨c, d, k1, k2, k3, k4, k5, k6⟩ := Spread.at hQ h i (by simpa using hi')
    exact ⟨c, d, by omega, k2, k3, k4, k5, fun w' y hs hy => ⟨a, b, h1, h2, h3, hQ a b w w' x (fun k p q => hs k (by omega) (by omega) (fun e => by have := h3 k e; omega) (Or.inl (by omega))) h4,
      k6 w' y (fun k p q e r => hs k (by omega) q e r) hy⟩⟩
theorem Spread.imp {Q' : Nat → Nat → World → α → Prop} (h : ∀ a b w x, Q a b w x → Q' a b w x) : ∀ {xs : List α} {lo hi : Nat} {w : World}, Spread Q g lo hi w xs → Spread Q' g lo hi w xs
  | [], _, _, _, k => k
  | x :: xs, _, _, _, ⟨a, b, h1, h2, h3, h4, k⟩ => ⟨a, b, h1, h2, h3, h _ _ _ _ h4, Spread.imp h k⟩
end
def sets (xs : List Value) (o : Nat) : List Value → List Value
  | [] => xs
  | c :: r => sets (xs.set o c) (o + 1) r
theorem sets_len : ∀ (cs : List Value) (xs : List Value) (o : Nat), (sets xs o cs).length = xs.length
  | [], _, _ => rfl
  | c :: r, xs, o => by unfold sets; rw [sets_len r, List.length_set]
theorem sets_get : ∀ (cs : List Value) (xs : List Value) (o j : Nat), o + cs.length ≤ xs.length → (sets xs o cs)[j]? = if o ≤ j ∧ j < o + cs.length then cs[j - o]? else xs[j]?
  | [], xs, o, j, _ => by
    have : ¬ (o ≤ j ∧ j < o + ([] : List Value).length) := by simp only [List.length_nil]; omega
    rw [if_neg this]
    rfl
  | c :: r, xs, o, j, h => by
    simp only [List.length_cons] at h
    unfold sets
    rw [sets_get r (xs.set o c) (o + 1) j (by rw [List.length_set]; omega)]
    by_cases h1 : o + 1 ≤ j ∧ j < o + 1 + r.length
    · rw [if_pos h1, if_pos (by simp only [List.length_cons]; omega)]
      obtain ⟨m, rfl⟩ : ∃ m, j = o + 1 + m := ⟨j - (o + 1), by omega⟩
      rw [show o + 1 + m - o = m + 1 by omega, show o + 1 + m - (o + 1) = m by omega, List.getElem?_cons_succ]
    · rw [if_neg h1, List.getElem?_set]
      by_cases h2 : o = j
      · subst h2
        rw [if_pos rfl, if_pos (by omega), if_pos (by simp only [List.length_cons]; omega), Nat.sub_self]; rfl
      · rw [if_neg h2, if_neg (by simp only [List.length_cons]; omega)]
theorem flat_len {α : Type} (f : α → List Value) (m : Nat) (hf : ∀ x, (f x).length = m) (L : List α) : (L.flatMap f).length = L.length * m := by
  induction L with
  | nil => simp
  | cons x L ih => rw [List.flatMap_cons, List.length_append, ih, hf, List.length_cons, Nat.add_mul, Nat.one_mul, Nat.add_comm]
theorem sets_flat {α : Type} (f : α → List Value) (m : Nat) (hm : 0 < m) (hf : ∀ x, (f x).length = m) (L : List α) (i : Nat) (hi : i < L.length) (y : α) : sets (L.flatMap f) (i * m) (f y) = (L.set i y).flatMap f := by
  have hle : i * m + m ≤ L.length * m := by have := Nat.mul_le_mul_right m (Nat.succ_le_of_lt hi); rw [Nat.succ_mul] at this; exact this
  apply List.ext_getElem?
  intro j
  rw [sets_get _ _ _ _ (by rw [flat_len f m hf, hf]; exact hle), hf]
  by_cases hj : j < L.length * m
  · have hq : j / m < L.length := Nat.div_lt_of_lt_mul (by rw [Nat.mul_comm]; exact hj)
    have hr : j % m < m := Nat.mod_lt _ hm
    have e : j = j / m * m + j % m := by rw [Nat.mul_comm]; exact (Nat.div_add_mod j m).symm
    have e2 : ((L.set i y).flatMap f)[j]? = (f (if i = j / m then y else L[j / m]))[j % m]? := by
      have := flat_get f m hf (L.set i y) (j / m) (by simpa using hq) (j % m) hr
      rw [← e, List.getElem_set] at this; exact this
    have e3 : (L.flatMap f)[j]? = (f L[j / m])[j % m]? := by
      have := flat_get f m hf L (j / m) hq (j % m) hr
      rw [← e] at this; exact this
    rw [e2, e3]
    by_cases hij : i = j / m
    · rw [if_pos hij]
      have h1 : i * m ≤ j := by rw [hij, Nat.mul_comm]; exact Nat.mul_div_le j m
      have h2 : j < i * m + m := by rw [e, hij]; omega
      rw [if_pos ⟨h1, h2⟩]
      congr 1
      rw [hij]; omega
    · rw [if_neg hij, if_neg]
      rintro ⟨h1, h2⟩
      apply hij
      have h3 : i ≤ j / m := (Nat.le_div_iff_mul_le hm).2 h1
      have h4 : j / m < i + 1 := (Nat.div_lt_iff_lt_mul hm).2 (by rw [Nat.add_mul, Nat.one_mul]; exact h2)
      omega
  · rw [if_neg (by omega), List.getElem?_eq_none (by rw [flat_len f m hf]; omega), List.getElem?_eq_none (by rw [flat_len f m hf, List.length_set]; omega)]
theorem setCells_own {B e m g n cap : Nat} : ∀ (cs : List Value) (o : Nat) {w : World} {xs : List Value}, w.ownsRow B e m (.slice (some ⟨g, 0, none⟩) n cap) n xs →
    (w.setCells g o cs).ownsRow B e m (.slice (some ⟨g, 0, none⟩) n cap) n (sets xs o cs)
  | [], _, _, _, h => h
  | c :: r, o, w, xs, h => by
    unfold sets World.setCells
    exact setCells_own r (o + 1) (h.stored o c).1
theorem setCells_heap (g : Nat) : ∀ (cs : List Value) (o : Nat) (w : World) (k : Nat), k ≠ g → (w.setCells g o cs).heap[k]? = w.heap[k]?
  | [], _, _, _, _ => rfl
  | c :: r, o, w, k, h => by
    unfold World.setCells
    rw [setCells_heap g r (o + 1) _ k h]
    exact Below.heap_setCell w ⟨g, o, none⟩ c k h
theorem Past.setCells {B : Nat} {W : World} {g : Nat} (hg : B ≤ g) : ∀ (cs : List Value) (o : Nat) {w : World}, Past B W w → Past B W (w.setCells g o cs)
  | [], _, _, h => h
  | c :: r, o, w, h => by
    unfold World.setCells
    exact Past.setCells hg r (o + 1) (h.set (a := ⟨g, o, none⟩) hg c)
theorem setCells_size (g : Nat) : ∀ (cs : List Value) (o : Nat) (w : World), (w.setCells g o cs).heap.size = w.heap.size
  | [], _, _ => rfl
  | c :: r, o, w => by
    unfold World.setCells
    rw [setCells_size g r (o + 1)]
    simp [World.setCell]
/-- An element of a row of the call's own. -/
theorem own_range {α : Type} {f : α → List Value} {m : Nat} (hf : ∀ x, (f x).length = m) {B e g n cap : Nat} {w : World} {L : List α} (h : w.ownsRow B e m (.slice (some ⟨g, 0, none⟩) n cap) n (L.flatMap f)) (i : Nat) (hi : i < L.length) : w.rangeAt g (i * m) (f L[i]) := by
  intro j v hv
  have hj : j < m := by have := (List.getElem?_eq_some_iff.1 hv).1; rwa [hf] at this
  have hl : L.length * m = n * m := by rw [← flat_len f m hf]; exact h.1
  have hle : i * m + m ≤ L.length * m := by have := Nat.mul_le_mul_right m (Nat.succ_le_of_lt hi); rw [Nat.succ_mul] at this; exact this
  rw [h.cellAt (i * m + j) (by omega), flat_get f m hf L i hi j hj]
  exact hv
theorem own_there {α : Type} {f : α → List Value} {m : Nat} (hf : ∀ x, (f x).length = m) {B e g n cap : Nat} {w : World} {L : List α} (h : w.ownsRow B e m (.slice (some ⟨g, 0, none⟩) n cap) n (L.flatMap f)) (i : Nat) (hi : i < L.length) : w.there g (i * m) m := by
  intro j hj
  have h1 := own_range hf h i hi j _ (List.getElem?_eq_getElem (by rw [hf]; exact hj))
  exact ⟨by rw [h1]; rfl, h.frozenAt _⟩
structure PIns where
  op : Int
  reg : Int
  ty : Int
  n : Int
  fl : Int
  args : List Arg
  tg : List Int
structure PFn where
  nm : ByteArray
  ps : List Int
  rt : Int
  bs : List (List PIns)
structure PExt where
  nm : ByteArray
  ps : List Int
  rt : Int
structure PVar where
  nm : ByteArray
  size : Int
structure PMod where
  vs : List PVar
  xs : List PExt
  fs : List PFn
abbrev LI := Ins × List Int
structure LB where
  p : Option Addr
  n : Nat
  k : Nat
  code : List LI
structure LFn where
  nm : ByteArray
  pp : Option Addr
  pn : Nat
  pc : Nat
  ps : List Int
  rt : Int
  bp : Option Addr
  bn : Nat
  bc : Nat
  bs : List LB
structure LExt where
  nm : ByteArray
  pp : Option Addr
  pn : Nat
  pc : Nat
  ps : List Int
  rt : Int
structure LMod where
  vp : Option Addr
  vn : Nat
  vc : Nat
  vs : List PVar
  xp : Option Addr
  xn : Nat
  xc : Nat
  xs : List LExt
  fp : Option Addr
  fn : Nat
  fc : Nat
  fs : List LFn
def insD (x : LI) : PIns := ⟨x.1.op, x.1.reg, x.1.ty, x.1.n, x.1.fl, x.1.args, x.2⟩
def blkD (c : LB) : List PIns := c.code.map insD
def fnD (f : LFn) : PFn := ⟨f.nm, f.ps, f.rt, f.bs.map blkD⟩
def extD (f : LExt) : PExt := ⟨f.nm, f.ps, f.rt⟩
def modD (m : LMod) : PMod := ⟨m.vs, m.xs.map extD, m.fs.map fnD⟩
def intC (i : Int) : List Value := [.int .i64 i]
def liC (x : LI) : List Value := insC x.1
def blkC (c : LB) : List Value := [.slice c.p c.n c.k]
def fnC (f : LFn) : List Value := [.string f.nm, .slice f.pp f.pn f.pc, .int .i64 f.rt, .slice f.bp f.bn f.bc]
def extC (f : LExt) : List Value := [.string f.nm, .slice f.pp f.pn f.pc, .int .i64 f.rt]
def varC (v : PVar) : List Value := [.string v.nm, .int .i64 v.size]
def modC (m : LMod) : List Value := [.slice m.vp m.vn m.vc, .slice m.xp m.xn m.xc, .slice m.fp m.fn m.fc]
theorem liC_one (x : LI) : ∀ u ∈ liC x, u.oneCell' = true := insC_one x.1
theorem blkC_one (x : LB) : ∀ u ∈ blkC x, u.oneCell' = true := by intro u hu; unfold blkC at hu; simp at hu; rw [hu]; rfl
theorem fnC_one (x : LFn) : ∀ u ∈ fnC x, u.oneCell' = true := by intro u hu; unfold fnC at hu; simp at hu; rcases hu with rfl | rfl | rfl | rfl <;> rfl
theorem extC_one (x : LExt) : ∀ u ∈ extC x, u.oneCell' = true := by intro u hu; unfold extC at hu; simp at hu; rcases hu with rfl | rfl | rfl <;> rfl
theorem varC_one (x : PVar) : ∀ u ∈ varC x, u.oneCell' = true := by intro u hu; unfold varC at hu; simp at hu; rcases hu with rfl | rfl <;> rfl
theorem intC_one (x : Int) : ∀ u ∈ intC x, u.oneCell' = true := by intro u hu; unfold intC at hu; simp at hu; rw [hu]; rfl
theorem intC_map (l : List Int) : l.flatMap intC = l.map (Value.int .i64) := by induction l with | nil => rfl | cons x l ih => rw [List.flatMap_cons, ih]; rfl
def RowAt (B : Nat) (w : World) (p : Option Addr) (cs : List Value) : Prop := ∀ j u, cs[j]? = some u → ∃ a, p = some a ∧ a.block < B ∧ w.cell? (a.add j) = some u
def ListIn {α : Type} (cel : α → List Value) (E : Nat → World → α → Prop) (B : Nat) (w : World) (p : Option Addr) (n c : Nat) (xs : List α) : Prop :=
  n = xs.length ∧ n ≤ c ∧ c ≤ maxLen ∧ RowAt B w p (xs.flatMap cel) ∧ ∀ x ∈ xs, E B w x
def NoMem {α : Type} : Nat → World → α → Prop := fun _ _ _ => True
def InsIn (B : Nat) (w : World) (x : LI) : Prop := ListIn argC NoMem B w x.1.ap x.1.al x.1.ac x.1.args ∧ ListIn intC NoMem B w x.1.tp x.1.tl x.1.tc x.2
def BlkIn (B : Nat) (w : World) (c : LB) : Prop := ListIn liC InsIn B w c.p c.n c.k c.code
def FnIn (B : Nat) (w : World) (f : LFn) : Prop := ListIn intC NoMem B w f.pp f.pn f.pc f.ps ∧ ListIn blkC BlkIn B w f.bp f.bn f.bc f.bs
def ExtIn (B : Nat) (w : World) (f : LExt) : Prop := ListIn intC NoMem B w f.pp f.pn f.pc f.ps
def ModIn (B : Nat) (w : World) (m : LMod) : Prop := ListIn varC NoMem B w m.vp m.vn m.vc m.vs ∧ ListIn extC ExtIn B w m.xp m.xn m.xc m.xs ∧ ListIn fnC FnIn B w m.fp m.fn m.fc m.fs
theorem RowAt.below {B : Nat} {W w : World} {p : Option Addr} {cs : List Value} (h : RowAt B W p cs) (hb : Below B W w) : RowAt B w p cs := fun j u hu => by
  obtain ⟨a, e, ha, hc⟩ := h j u hu
  exact ⟨a, e, ha, (hb.cell (p := a.add j) (by rw [add_block]; exact ha)).trans hc⟩
theorem RowAt.mono {B B' : Nat} {w : World} {p : Option Addr} {cs : List Value} (h : RowAt B w p cs) (hB : B ≤ B') : RowAt B' w p cs := fun j u hu => by
  obtain ⟨a, e, ha, hc⟩ := h j u hu
  exact ⟨a, e, Nat.lt_of_lt_of_le ha hB, hc⟩
/-- What lies below B stays, when all below B stays; and lies below each greater number. -/
def Lasts {α : Type} (E : Nat → World → α → Prop) : Prop := ∀ B B' W w x, Below B W w → B ≤ B' → E B W x → E B' w x
theorem lasts_NoMem {α : Type} : Lasts (NoMem (α := α)) := fun _ _ _ _ _ _ _ _ => trivial
theorem ListIn.lasts {α : Type} {cel : α → List Value} {E : Nat → World → α → Prop} (hE : Lasts E) {B B' : Nat} {W w : World} {p : Option Addr} {n c : Nat} {xs : List α} (h : ListIn cel E B W p n c xs) (hb : Below B W w) (hB : B ≤ B') : ListIn cel E B' w p n c xs :=
  ⟨h.1, h.2.1, h.2.2.1, (h.2.2.2.1.below hb).mono hB, fun x hx => hE _ _ _ _ _ hb hB (h.2.2.2.2 x hx)⟩
theorem lasts_Ins : Lasts InsIn := fun _ _ _ _ _ hb hB h => ⟨h.1.lasts lasts_NoMem hb hB, h.2.lasts lasts_NoMem hb hB⟩
theorem lasts_Blk : Lasts BlkIn := fun _ _ _ _ _ hb hB h => ListIn.lasts lasts_Ins h hb hB
theorem lasts_Fn : Lasts FnIn := fun _ _ _ _ _ hb hB h => ⟨h.1.lasts lasts_NoMem hb hB, h.2.lasts lasts_Blk hb hB⟩
theorem lasts_Ext : Lasts ExtIn := fun _ _ _ _ _ hb hB h => ListIn.lasts lasts_NoMem h hb hB
theorem lasts_Mod : Lasts ModIn := fun _ _ _ _ _ hb hB h => ⟨h.1.lasts lasts_NoMem hb hB, h.2.1.lasts lasts_Ext hb hB, h.2.2.lasts lasts_Fn hb hB⟩
theorem RowAt.at {α : Type} {cel : α → List Value} {m : Nat} (hc : ∀ x, (cel x).length = m) {B : Nat} {w : World} {p : Option Addr} {xs : List α} (h : RowAt B w p (xs.flatMap cel)) (i : Nat) (hi : i < xs.length) (hm : 0 < m) :
    ∃ a, p = some a ∧ a.block < B ∧ ∀ r, r < m → w.cell? (a.add (i * m + r)) = (cel xs[i])[r]? := by
  have key : ∀ r, r < m → ∃ a, p = some a ∧ a.block < B ∧ w.cell? (a.add (i * m + r)) = (cel xs[i])[r]? := fun r hr => by
    have e := flat_get cel m hc xs i hi r hr
    have hs : (cel xs[i])[r]? = some ((cel xs[i])[r]'(by rw [hc]; exact hr)) := List.getElem?_eq_getElem _
    rw [hs] at e ⊢
    exact h _ _ e
  obtain ⟨a, e, ha, _⟩ := key 0 hm
  refine ⟨a, e, ha, fun r hr => ?_⟩
  obtain ⟨a', e', _, h'⟩ := key r hr
  rw [e] at e'
  cases e'
  exact h'
theorem rowAt_of {α : Type} {cel : α → List Value} {m : Nat} (hc : ∀ x, (cel x).length = m) {B : Nat} {w : World} {p : Option Addr} {xs : List α} (hm : 0 < m)
    (h : ∀ i (hi : i < xs.length), ∃ a, p = some a ∧ a.block < B ∧ ∀ r, r < m → w.cell? (a.add (i * m + r)) = (cel xs[i])[r]?) : RowAt B w p (xs.flatMap cel) := fun j u hu => by
  have hj : j < xs.length * m := by rw [← flat_len cel m hc]; exact (List.getElem?_eq_some_iff.1 hu).1
  have hq : j / m < xs.length := Nat.div_lt_of_lt_mul (by rw [Nat.mul_comm]; exact hj)
  have hr : j % m < m := Nat.mod_lt _ hm
  have e : j = j / m * m + j % m := by rw [Nat.mul_comm]; exact (Nat.div_add_mod j m).symm
  obtain ⟨a, e1, ha, hcell⟩ := h (j / m) hq
  refine ⟨a, e1, ha, ?_⟩
  have h1 := hcell (j % m) hr
  rw [← e] at h1
  rw [h1, ← flat_get cel m hc xs (j / m) hq (j % m) hr, ← e]
  exact hu
theorem ListIn.cells {α : Type} {cel : α → List Value} {E : Nat → World → α → Prop} {B : Nat} {w : World} {p : Option Addr} {n c : Nat} {xs : List α} (h : ListIn cel E B w p n c xs) : ∀ j u, (xs.flatMap cel)[j]? = some u → ∃ a, p = some a ∧ w.cell? (a.add j) = some u := fun j u hu => by
  obtain ⟨a, e, _, hc⟩ := h.2.2.2.1 j u hu
  exact ⟨a, e, hc⟩
def NoOwn {α : Type} : Nat → Nat → World → α → Prop := fun _ _ _ _ => True
def ListOwn {α : Type} (ty : TypeId) (m : Nat) (cel : α → List Value) (Q : Nat → Nat → World → α → Prop) (a b : Nat) (w : World) (p : Option Addr) (n c : Nat) (xs : List α) : Prop :=
  n = xs.length ∧ w.ownsRow a ty m (.slice p n c) n (xs.flatMap cel) ∧ (∀ g, (Value.slice p n c).ownBlock = some g → g < b) ∧ Spread Q (Value.slice p n c).ownBlock a b w xs
theorem spread_NoOwn {α : Type} {g : Option Nat} {lo hi : Nat} {w : World} (h : lo ≤ hi) : ∀ xs : List α, Spread NoOwn g lo hi w xs
  | [] => h
  | x :: xs => ⟨lo, lo, Nat.le_refl _, Nat.le_refl _, fun k _ => by omega, trivial, spread_NoOwn h xs⟩
theorem local_NoOwn {α : Type} : Local (NoOwn (α := α)) := fun _ _ _ _ _ _ _ => trivial
theorem ownsRow_stay {w w' : World} {B e m n b : Nat} {v : Value} {xs : List Value} (h : w.ownsRow B e m v n xs) (hb : ∀ g, v.ownBlock = some g → g < b) (hs : Stay B b w w') : w'.ownsRow B e m v n xs := by
  refine ⟨h.1, ?_⟩
  rcases h.2 with hn | ⟨g, cap, cur, hv, hB, hg, h1, h2, h3, h4⟩
  · exact .inl hn
  · exact .inr ⟨g, cap, cur, hv, hB, (hs g hB (hb g (by rw [hv]; rfl))).trans hg, h1, h2, h3, h4⟩
theorem ListOwn.stay {α : Type} {ty m : Nat} {cel : α → List Value} {Q : Nat → Nat → World → α → Prop} (hQ : Local Q) {a b : Nat} {w w' : World} {p : Option Addr} {n c : Nat} {xs : List α} (h : ListOwn ty m cel Q a b w p n c xs) (hs : Stay a b w w') : ListOwn ty m cel Q a b w' p n c xs :=
  ⟨h.1, ownsRow_stay h.2.1 h.2.2.1 hs, h.2.2.1, h.2.2.2.stay hQ (fun k x y _ => hs k x y)⟩
theorem ListOwn.le {α : Type} {ty m : Nat} {cel : α → List Value} {Q : Nat → Nat → World → α → Prop} {a b : Nat} {w : World} {p : Option Addr} {n c : Nat} {xs : List α} (h : ListOwn ty m cel Q a b w p n c xs) : a ≤ b := h.2.2.2.le
def InsOwn (a b : Nat) (w : World) (x : LI) : Prop := ListOwn 29 3 argC NoOwn a b w x.1.ap x.1.al x.1.ac x.1.args ∧ ListOwn 3 1 intC NoOwn a b w x.1.tp x.1.tl x.1.tc x.2
def BlkOwn (a b : Nat) (w : World) (c : LB) : Prop := ListOwn 25 7 liC InsOwn a b w c.p c.n c.k c.code
def ExtOwn (a b : Nat) (w : World) (f : LExt) : Prop := ListOwn 3 1 intC NoOwn a b w f.pp f.pn f.pc f.ps
theorem local_Ins : Local InsOwn := fun a b w w' x hs ⟨h, k⟩ => ⟨h.stay local_NoOwn hs, k.stay local_NoOwn hs⟩
theorem local_Blk : Local BlkOwn := fun a b w w' x hs h => ListOwn.stay local_Ins h hs
theorem local_Ext : Local ExtOwn := fun a b w w' x hs h => ListOwn.stay local_NoOwn h hs
/-- What is owned lies in memory. -/
theorem Spread.mem {α : Type} {Q : Nat → Nat → World → α → Prop} {g : Option Nat} : ∀ {xs : List α} {lo hi : Nat} {w : World}, Spread Q g lo hi w xs → ∀ x ∈ xs, ∃ a b, b ≤ hi ∧ Q a b w x
  | [], _, _, _, _, _, hx => absurd hx (by simp)
  | y :: xs, lo, hi, w, ⟨a, b, h1, h2, h3, h4, h⟩, x, hx => by
    rcases List.mem_cons.1 hx with rfl | hx
    · exact ⟨a, b, h.le, h4⟩
    · exact Spread.mem h x hx
theorem ListOwn.lies {α : Type} {ty m : Nat} {cel : α → List Value} {Q : Nat → Nat → World → α → Prop} {E : Nat → World → α → Prop} (hm : 0 < m) (hc : ∀ x, (cel x).length = m) (hQE : ∀ a b w x, b ≤ w.heap.size → Q a b w x → E w.heap.size w x) {a b : Nat} {w : World} {p : Option Addr} {n c : Nat} {xs : List α}
    (h : ListOwn ty m cel Q a b w p n c xs) (hb : b ≤ w.heap.size) : ListIn cel E w.heap.size w p n c xs := by
  obtain ⟨h1, h2, h3, h4⟩ := h
  have hE : ∀ x ∈ xs, E w.heap.size w x := fun x hx => by
    obtain ⟨a', b', hb', hq⟩ := h4.mem x hx
    exact hQE a' b' w x (by omega) hq
  rcases id h2.2 with ⟨e, h0⟩ | ⟨g, cap, cur, e, hg, hh, k1, k2, k3, k4⟩
  · injection e with e1 e2 e3
    subst e1 e2 e3
    have : xs = [] := List.eq_nil_of_length_eq_zero h1.symm
    subst this
    exact ⟨h1, Nat.le_refl _, Nat.zero_le _, fun j u hu => by simp at hu, hE⟩
  · injection e with e1 e2 e3
    subst e1 e3
    refine ⟨h1, k1, k2, fun j u hu => ⟨⟨g, 0, none⟩, rfl, (Array.getElem?_eq_some_iff.1 hh).1, ?_⟩, hE⟩
    have hj : j < n * m := by rw [h1, ← flat_len cel m hc]; exact (List.getElem?_eq_some_iff.1 hu).1
    rw [add0, h2.cellAt j hj]
    exact hu
theorem InsOwn.lies {a b : Nat} {w : World} {x : LI} (hb : b ≤ w.heap.size) (h : InsOwn a b w x) : InsIn w.heap.size w x := by
  obtain ⟨h, k⟩ := h
  exact ⟨h.lies (m := 3) (by decide) (fun _ => rfl) (fun _ _ _ _ _ _ => trivial) hb, k.lies (m := 1) (by decide) (fun _ => rfl) (fun _ _ _ _ _ _ => trivial) hb⟩
theorem BlkOwn.lies {a b : Nat} {w : World} {x : LB} (hb : b ≤ w.heap.size) (h : BlkOwn a b w x) : BlkIn w.heap.size w x := by
  unfold BlkOwn at h
  exact h.lies (m := 7) (by decide) (fun _ => rfl) (fun _ _ _ _ hb hq => InsOwn.lies hb hq) hb
theorem ExtOwn.lies {a b : Nat} {w : World} {x : LExt} (hb : b ≤ w.heap.size) (h : ExtOwn a b w x) : ExtIn w.heap.size w x := by
  unfold ExtOwn at h
  exact h.lies (m := 1) (by decide) (fun _ => rfl) (fun _ _ _ _ _ _ => trivial) hb
theorem InsIn.args {B : Nat} {w : World} {x : LI} (h : InsIn B w x) : ArgsAt B w x.1 := by
  obtain ⟨h1, h2, h3, h4, -⟩ := h.1
  refine ⟨h1, by omega, h3, fun i hi => ?_⟩
  obtain ⟨a, e, ha, hc⟩ := h4.at (m := 3) (fun _ => rfl) i hi (by decide)
  refine ⟨a, e, ha, hc 0 (by decide), ?_, ?_⟩
  · have := hc 1 (by decide); rw [add_add a _ 1 (by decide)] at this; exact this
  · have := hc 2 (by decide); rw [add_add a _ 2 (by decide)] at this; exact this
theorem InsIn.ints {B : Nat} {w : World} {x : LI} (h : InsIn B w x) : IntsAt B w x.1.tp x.1.tl x.1.tc x.2 := by
  obtain ⟨h1, h2, h3, h4, -⟩ := h.2
  refine ⟨h1.symm, h2, h3, fun i hi => ?_⟩
  obtain ⟨a, e, ha, hc⟩ := h4.at (m := 1) (fun _ => rfl) i hi (by decide)
  refine ⟨a, e, ha, ?_⟩
  have := hc 0 (by decide)
  rw [Nat.mul_one, Nat.add_zero] at this
  exact this
theorem codeAt_in {B : Nat} {w : World} {p : Option Addr} {n c : Nat} {L : List LI} (h : ListIn liC InsIn B w p n c L) : CodeAt B w (.slice p n c) (L.map Prod.fst) := by
  obtain ⟨h1, h2, h3, h4, -⟩ := h
  refine ⟨p, c, by rw [List.length_map, h1], by rw [List.length_map]; omega, h3, fun i hi => ?_⟩
  have hi' : i < L.length := by simpa using hi
  obtain ⟨a, e, ha, hc⟩ := h4.at (m := 7) (fun _ => rfl) i hi' (by decide)
  refine ⟨a, e, ha, ?_⟩
  rw [List.getElem_map]
  refine ⟨hc 0 (by decide), ?_, ?_, ?_, ?_, ?_, ?_⟩
  · have := hc 1 (by decide); rw [add_add a _ 1 (by decide)] at this; exact this
  · have := hc 2 (by decide); rw [add_add a _ 2 (by decide)] at this; exact this
  · have := hc 3 (by decide); rw [add_add a _ 3 (by decide)] at this; exact this
  · have := hc 4 (by decide); rw [add_add a _ 4 (by decide)] at this; exact this
  · have := hc 5 (by decide); rw [add_add a _ 5 (by decide)] at this; exact this
  · have := hc 6 (by decide); rw [add_add a _ 6 (by decide)] at this; exact this
def located (bs : List LB) : List (List Ins) := bs.map fun c => c.code.map Prod.fst
theorem blocksAt_in {B : Nat} {w : World} {p : Option Addr} {n c : Nat} {bs : List LB} (h : ListIn blkC BlkIn B w p n c bs) : BlocksAt B w (.slice p n c) (located bs) := by
  obtain ⟨h1, h2, h3, h4, h5⟩ := h
  refine ⟨p, c, by unfold located; rw [List.length_map, h1], by unfold located; rw [List.length_map]; omega, h3, fun i hi => ?_⟩
  have hi' : i < bs.length := by simpa [located] using hi
  obtain ⟨a, e, ha, hc⟩ := h4.at (m := 1) (fun _ => rfl) i hi' (by decide)
  have hx := codeAt_in (h5 bs[i] (List.getElem_mem hi'))
  refine ⟨a, .slice bs[i].p bs[i].n bs[i].k, e, ha, ?_, by simpa [located] using hx⟩
  have := hc 0 (by decide)
  rw [Nat.mul_one, Nat.add_zero] at this
  exact this
theorem allArgs_in {B : Nat} {w : World} {p : Option Addr} {n c : Nat} {bs : List LB} (h : ListIn blkC BlkIn B w p n c bs) : AllArgs B w (located bs) := fun b hb k hk => by
  have hb' : b < bs.length := by simpa [located] using hb
  have h' := h.2.2.2.2 bs[b] (List.getElem_mem hb')
  have hk' : k < bs[b].code.length := by simpa [located] using hk
  have := (h'.2.2.2.2 (bs[b].code[k]) (List.getElem_mem hk')).args
  simpa [located] using this
def insZ (x : PIns) : Nat := 1 + x.args.length + x.tg.length
def codeZ (c : List PIns) : Nat := (c.map insZ).sum
def blksZ (b : List (List PIns)) : Nat := (b.map fun c => 1 + codeZ c).sum
def fnZ (f : PFn) : Nat := 1 + f.ps.length + blksZ f.bs
def extZ (f : PExt) : Nat := 1 + f.ps.length
def modZ (m : PMod) : Nat := m.vs.length + (m.xs.map extZ).sum + (m.fs.map fnZ).sum
theorem sum_mem {α : Type} (f : α → Nat) : ∀ {xs : List α} {x : α}, x ∈ xs → f x ≤ (xs.map f).sum
  | y :: xs, x, h => by
    simp only [List.map_cons, List.sum_cons]
    rcases List.mem_cons.1 h with rfl | h
    · omega
    · have := sum_mem f h; omega
theorem len_sum {α : Type} (f : α → Nat) (hf : ∀ x, 1 ≤ f x) : ∀ xs : List α, xs.length ≤ (xs.map f).sum
  | [] => Nat.le_refl _
  | x :: xs => by simp only [List.map_cons, List.sum_cons, List.length_cons]; have := len_sum f hf xs; have := hf x; omega
theorem codeZ_len (c : List PIns) : c.length ≤ codeZ c := len_sum insZ (fun x => by unfold insZ; omega) c
theorem codeZ_mem {c : List PIns} {x : PIns} (h : x ∈ c) : insZ x ≤ codeZ c := sum_mem insZ h
theorem blksZ_len (b : List (List PIns)) : b.length ≤ blksZ b := len_sum _ (fun x => by omega) b
theorem blksZ_mem {b : List (List PIns)} {x : List PIns} (h : x ∈ b) : 1 + codeZ x ≤ blksZ b := sum_mem (fun c => 1 + codeZ c) h
theorem own_intro {α : Type} {ty m : Nat} {cel : α → List Value} {Q : Nat → Nat → World → α → Prop} {a b : Nat} {w : World} {p : Option Addr} {n c : Nat} {xs : List α} (hn : n = xs.length) (h : w.ownsRow a ty m (.slice p n c) n (xs.flatMap cel)) (hb : b = w.heap.size) (hs : Spread Q (Value.slice p n c).ownBlock a b w xs) : ListOwn ty m cel Q a b w p n c xs :=
  ⟨hn, h, fun g hg => by rw [hb]; exact (h.lt g hg).2, hs⟩
theorem past_lasts {α : Type} {E : Nat → World → α → Prop} (hE : Lasts E) {W w : World} {x : α} (h : E W.heap.size W x) (hp : Past W.heap.size W w) : E w.heap.size w x := hE _ _ _ _ _ hp.2 hp.2.size h
/-- Own blocks of few cells. -/
def Box (g : Nat) (cs : List Value) (w : World) : Prop := g < w.heap.size ∧ (∀ i, w.frozen? ⟨g, i, none⟩ = false) ∧ ∀ i u, cs[i]? = some u → w.cell? ⟨g, i, none⟩ = some u
theorem Box.new (w : World) {g : Nat} (hg : g = w.heap.size) (cs : List Value) (t : TypeId) : Box g cs (w.alloc (.cells cs.toArray t)) := by
  subst hg
  refine ⟨by simp, fun i => World.frozen?_alloc_at _ _ _ _ rfl, fun i u h => ?_⟩
  rw [World.cell?_alloc_at _ _ _ _ rfl]
  simpa using h
theorem Box.below {B g : Nat} {cs : List Value} {W w : World} (h : Box g cs W) (hb : Below B W w) (hg : g < B) : Box g cs w :=
  ⟨Nat.lt_of_lt_of_le h.1 hb.size, fun i => (hb.frozen (p := ⟨g, i, none⟩) hg).trans (h.2.1 i), fun i u e => (hb.cell (p := ⟨g, i, none⟩) hg).trans (h.2.2 i u e)⟩
theorem Box.later {g : Nat} {cs : List Value} {W w : World} (h : Box g cs W) (hb : Below W.heap.size W w) : Box g cs w := h.below hb h.1
theorem Box.alloc {g : Nat} {cs : List Value} {W : World} (h : Box g cs W) (o : Obj) : Box g cs (W.alloc o) := h.later ((Below.refl _ _).alloc (Nat.le_refl _) o)
theorem Box.other {g d : Nat} {cs : List Value} {w : World} (h : Box g cs w) (hd : d ≠ g) (i : Nat) (v : Value) : Box g cs (w.setCell ⟨d, i, none⟩ v) :=
  ⟨by simpa [World.setCell] using h.1, fun i => by rw [World.frozen?_setCell]; exact h.2.1 i, fun j u e => by rw [World.cell?_setCell_other (h := fun e => hd (by injection e))]; exact h.2.2 j u e⟩
theorem Box.set {g : Nat} {cs : List Value} {w : World} (h : Box g cs w) (i : Nat) (v : Value) : Box g (cs.set i v) (w.setCell ⟨g, i, none⟩ v) := by
  refine ⟨by simpa [World.setCell] using h.1, fun i => by rw [World.frozen?_setCell]; exact h.2.1 i, fun j u e => ?_⟩
  rw [List.getElem?_set] at e
  by_cases hij : i = j
  · subst hij
    rw [if_pos rfl] at e
    by_cases hl : i < cs.length
    · rw [if_pos hl] at e
      obtain ⟨u0, hu0⟩ : ∃ u0, cs[i]? = some u0 := ⟨_, List.getElem?_eq_getElem hl⟩
      rw [World.cell?_setCell_same' _ _ _ (by rw [h.2.2 i u0 hu0]; rfl)]
      exact e
    · rw [if_neg hl] at e; cases e
  · rw [if_neg hij] at e
    rw [World.cell?_setCell_other (h := fun e => hij (by injection e))]
    exact h.2.2 j u e
theorem Box.get {g : Nat} {cs : List Value} {w : World} (h : Box g cs w) (i : Nat) (u : Value) (e : cs[i]? = some u) : w.cell? ⟨g, i, none⟩ = some u := h.2.2 i u e
end Go.Proofs.Ytpjfkmaceaikbaa
