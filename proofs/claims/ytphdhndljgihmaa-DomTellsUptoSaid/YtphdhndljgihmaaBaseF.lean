/- The numbers in an argument's To lists are ints. -/
import Derived.Test.YtphdhndljgihmaaBaseE
import Derived.Deep.Slices
import Derived.OpenShut
import Derived.WideShapes
namespace Go.Proofs.Ytphdhndljgihmaa
open Go.RowKit Go.Maps Go.ChangeShapes Go.WideShapes Go.Deep
set_option linter.unusedVariables false
set_option linter.unusedSimpArgs false

def InsTw (x : LI) : Prop := ∀ t ∈ x.2, wfI t
def BlkTw (c : LB) : Prop := ∀ x ∈ c.code, InsTw x
def FnTw (f : LFn) : Prop := ∀ c ∈ f.bs, BlkTw c
section
variable {H : Type} {enc : TypeId × Value → H} {W : World} {sp : Nat → Bool} {held : Bool}
theorem open_intsT {n : Nat} {c : Value} {y : DataW H × List MemPlace} (h : DataW.trod enc Try.prog W 0 sp held n 22 [c] = some y) :
    ∃ (p : Option Addr) (k : Nat) (ts : List Int), c = .slice p ts.length k ∧ ListIn intC NoMem W.heap.size W p ts.length k ts ∧ (∀ t ∈ ts, wfI t) ∧ ts.length ≤ Rows.uptoBulk y.1 := by
  obtain ⟨p, k, xs, e, hl, hp, _, hn⟩ := open_list (α := Int) (m := 1) (by decide) intC (fun _ => rfl) NoMem (fun x => wfI x) (fun _ => 1) Try.underlying22 cellsInt (fun n cs y hlen h2 => by
    match cs, hlen with
    | [v0], _ =>
      obtain ⟨k, rfl, w1⟩ := tr_int h2
      exact ⟨k, rfl, trivial, w1, bulk_pos _⟩) h
  exact ⟨p, k, xs, e, hl, hp, hn⟩
set_option maxRecDepth 100000 in
theorem open_codeT {n : Nat} {c : Value} {y : DataW H × List MemPlace} (h : DataW.trod enc Try.prog W 0 sp held n 45 [c] = some y) :
    ∃ (p : Option Addr) (k : Nat) (L : List LI), c = .slice p L.length k ∧ ListIn liC InsIn W.heap.size W p L.length k L ∧ (∀ x ∈ L, InsTw x) ∧ codeZ (L.map insD) ≤ Rows.uptoBulk y.1 := by
  obtain ⟨p, k, xs, e, hl, hp, hz, _⟩ := open_list (α := LI) (m := 7) (by decide) liC (fun _ => rfl) InsIn InsTw (fun x => insZ (insD x)) Try.underlying45 cellsInstr (fun n cs y hlen h2 => by
    obtain ⟨xs, k, _, hx, _, hxl, hg⟩ := DataW.trod_struct Try.underlying51 h2
    have c3 := cellsInt
    have c22 := cellsVals
    have c23 := cellsInts
    match cs, hlen with
    | [v0, v1, v2, v3, v4, v5, v6], _ =>
      match xs, hxl with
      | [y0, y1, y2, y3, y4, y5, y6], _ =>
        have g0 := hg 0 _ rfl
        have g1 := hg 1 _ rfl
        have g2 := hg 2 _ rfl
        have g3 := hg 3 _ rfl
        have g4 := hg 4 _ rfl
        have g5 := hg 5 _ rfl
        have g6 := hg 6 _ rfl
        simp [c3, c22, c23] at g0 g1 g2 g3 g4 g5 g6
        obtain ⟨k0, rfl, _⟩ := tr_int g0
        obtain ⟨k1, rfl, w1⟩ := tr_int g1
        obtain ⟨k2, rfl, _⟩ := tr_int g2
        obtain ⟨k3, rfl, _⟩ := tr_int g3
        obtain ⟨k4, rfl, _⟩ := tr_int g4
        obtain ⟨ap, ac, args, rfl, a1, a2, a3⟩ := open_args3 g5
        obtain ⟨tp, tc, ts, rfl, t1, tw, t2⟩ := open_intsT g6
        refine ⟨(⟨k0, k1, k2, k3, k4, ap, args.length, ac, tp, ts.length, tc, args⟩, ts), rfl, ⟨a1, t1⟩, tw, ?_⟩
        show 1 + args.length + ts.length ≤ _
        have e : y.1 = .agg [y0.1, y1.1, y2.1, y3.1, y4.1, y5.1, y6.1] := by have := congrArg Prod.fst hx; simpa using this
        rw [e]
        simp only [Rows.uptoBulk, Rows.uptoBulkAll]
        omega) h
  refine ⟨p, k, xs, e, hl, hp, ?_⟩
  unfold codeZ
  rw [List.map_map]
  exact hz
set_option maxRecDepth 100000 in
theorem open_blksT {n : Nat} {c : Value} {y : DataW H × List MemPlace} (h : DataW.trod enc Try.prog W 0 sp held n 23 [c] = some y) :
    ∃ (p : Option Addr) (k : Nat) (L : List LB), c = .slice p L.length k ∧ ListIn blkC BlkIn W.heap.size W p L.length k L ∧ (∀ x ∈ L, BlkTw x) ∧ blksZ (L.map blkD) ≤ Rows.uptoBulk y.1 := by
  obtain ⟨p, k, xs, e, hl, hp, hz, _⟩ := open_list (α := LB) (m := 1) (by decide) blkC (fun _ => rfl) BlkIn BlkTw (fun x => 1 + codeZ (blkD x)) Try.underlying23 cellsBlock (fun n cs y hlen h2 => by
    obtain ⟨xs, k, _, hx, _, hxl, hg⟩ := DataW.trod_struct Try.underlying47 h2
    have cc := cellsCode
    match cs, hlen with
    | [v0], _ =>
      match xs, hxl with
      | [y0], _ =>
        have g0 := hg 0 _ rfl
        simp [cc] at g0
        obtain ⟨p, c, L, rfl, l1, l2, l3⟩ := open_codeT g0
        refine ⟨⟨p, L.length, c, L⟩, rfl, l1, l2, ?_⟩
        show 1 + codeZ (L.map insD) ≤ _
        have e : y.1 = .agg [y0.1] := by have := congrArg Prod.fst hx; simpa using this
        rw [e]
        simp only [Rows.uptoBulk, Rows.uptoBulkAll]
        omega) h
  refine ⟨p, k, xs, e, hl, hp, ?_⟩
  unfold blksZ
  rw [List.map_map]
  exact hz
set_option maxRecDepth 100000 in
theorem open_fn_cellsT {n : Nat} {cs : List Value} {y : DataW H × List MemPlace} (hlen : cs.length = 4) (h2 : DataW.trod enc Try.prog W 0 sp held n 25 cs = some y) : ∃ f : LFn, cs = fnC f ∧ FnIn W.heap.size W f ∧ FnTw f ∧ fnZ (fnD f) ≤ Rows.uptoBulk y.1 := by
  obtain ⟨xs, k, _, hx, _, hxl, hg⟩ := DataW.trod_struct Try.underlying25 h2
  have c3 := cellsInt
  have c22 := cellsBlocks
  have c23 := cellsInts
  have c9 := cellsString
  match cs, hlen with
  | [v0, v1, v2, v3], _ =>
    match xs, hxl with
    | [y0, y1, y2, y3], _ =>
      have g0 := hg 0 _ rfl
      have g1 := hg 1 _ rfl
      have g2 := hg 2 _ rfl
      have g3 := hg 3 _ rfl
      simp [c3, c22, c23, c9] at g0 g1 g2 g3
      obtain ⟨s0, rfl⟩ : ∃ s0 : ByteArray, v0 = .string s0 := by
        obtain ⟨s0, h1, _⟩ := DataW.trod_string Try.underlying9 g0
        exact ⟨s0, (List.cons.inj h1).1⟩
      obtain ⟨k2, rfl, _⟩ := tr_int g2
      obtain ⟨p1, c1, us, rfl, u1, u2⟩ := open_ints3 g1
      obtain ⟨p2, c2, L, rfl, l1, l2, l3⟩ := open_blksT g3
      refine ⟨⟨s0, p1, us.length, c1, us, k2, p2, L.length, c2, L⟩, rfl, ⟨u1, l1⟩, l2, ?_⟩
      show 1 + us.length + blksZ (L.map blkD) ≤ _
      have e : y.1 = .agg [y0.1, y1.1, y2.1, y3.1] := by have := congrArg Prod.fst hx; simpa using this
      rw [e]
      simp only [Rows.uptoBulk, Rows.uptoBulkAll]
      omega
set_option maxRecDepth 100000 in
theorem open_fnT {r : Reach} {b0 : Nat} {v : Value} {d : DataW H} {p : List MemPlace} (hv : Value.okWide Try.prog W r b0 25 v) (h : DataW.Trod enc Try.prog W 0 sp held 25 v d p) :
    ∃ f : LFn, v = .agg (fnC f).toArray ∧ FnIn W.heap.size W f ∧ FnTw f ∧ fnZ (fnD f) ≤ Rows.uptoBulk d := by
  obtain ⟨cs, rfl, hsz⟩ := okWide_struct Try.underlying25 hv
  obtain ⟨fuel, hf⟩ := h
  obtain ⟨ls⟩ := cs
  obtain ⟨f, hc, h1, h2, h3⟩ := open_fn_cellsT (hsz.trans cellsFunc) hf
  exact ⟨f, by have hc : ls = fnC f := hc
               rw [hc], h1, h2, h3⟩
end
end Go.Proofs.Ytphdhndljgihmaa
