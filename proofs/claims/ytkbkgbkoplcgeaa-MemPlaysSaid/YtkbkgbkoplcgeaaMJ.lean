/- Package mem: a memory in the heap; isGone, Size. -/
import Derived.Test.YtkbkgbkoplcgeaaMD
import Derived.Maps.OwnSet
namespace Go.Proofs.Ytkbkgbkoplcgeaa
open Go.RowKit Go.Maps
set_option linter.unusedVariables false
set_option linter.unusedSimpArgs false

/-- A cell as it was laid. -/
structure Cl where
  y : By
  late : Bool
/-- A block that is alive: where it lies, its size, what it is behind the cells, its cells. -/
structure Bk where
  pb : Nat
  size : Nat
  all : By
  cp : Option Addr
  cc : Nat
  cs : List Cl
def celC (x : Cl) : List Value := [.int .i64 x.y.k, .int .u8 x.y.b, .int .i64 x.y.bk, .int .i64 x.y.o, .int .i64 x.y.i, .bool x.late]
theorem celC_len (x : Cl) : (celC x).length = 6 := rfl
theorem celC_one (x : Cl) : ∀ u ∈ celC x, u.oneCell' = true := by intro u hu; unfold celC at hu; simp at hu; rcases hu with rfl | rfl | rfl | rfl | rfl | rfl <;> rfl
def bkC (b : Bk) : List Value := [.int .i64 b.size, .int .i64 b.all.k, .int .u8 b.all.b, .int .i64 b.all.bk, .int .i64 b.all.o, .int .i64 b.all.i, .slice b.cp b.cs.length b.cc]
abbrev Ms := List (Option Bk)
/-- The block of a number, if it is alive. -/
def atS (st : Ms) (k : Int) : Option Bk := if 0 ≤ k then st.getD k.toNat none else none
theorem atS_nat (st : Ms) (i : Nat) : atS st i = st.getD i none := by unfold atS; rw [if_pos (by omega)]; simp
theorem atS_some {st : Ms} {k : Int} {b : Bk} (h : atS st k = some b) : 0 ≤ k ∧ k < st.length ∧ st[k.toNat]? = some (some b) := by
  unfold atS at h
  split at h
  · rename_i h0
    rw [List.getD_eq_getElem?_getD] at h
    cases e : st[k.toNat]? with
    | none => rw [e] at h; cases h
    | some x =>
      rw [e] at h
      have hl := (List.getElem?_eq_some_iff.1 e).1
      exact ⟨h0, by omega, by rw [← h]; rfl⟩
  · cases h
theorem atS_out {st : Ms} {k : Int} (h : k < 0 ∨ st.length ≤ k) : atS st k = none := by
  cases e : atS st k with
  | none => rfl
  | some b => have := atS_some e; omega
/-- Was the block of this number freed? -/
def gone (st : Ms) (k : Int) : Bool := decide (0 ≤ k) && decide (k < st.length) && (atS st k).isNone
def ptrV : Option Bk → Value
  | none => .pointer none
  | some b => .pointer (some ⟨b.pb, 0, none⟩)
def ptrR : Value → Option (DataW Unit × List MemPlace)
  | .pointer none => some (.nil, [])
  | .pointer (some ⟨b, 0, none⟩) => some (.lit (.int .i64 b), [])
  | _ => none
def pd : Option Bk → DataW Unit
  | none => .nil
  | some b => .lit (.int .i64 b.pb)
theorem ptrR_inv {v : Value} {x : Option Bk} {ps : List MemPlace} (h : ptrR v = some (pd x, ps)) : v = ptrV x := by
  unfold ptrR at h
  split at h
  · cases x with
    | none => rfl
    | some b => cases h
  · rename_i b
    cases x with
    | none => cases h
    | some c =>
      injection h with h
      injection h with h1 h2
      injection h1 with h1
      injection h1 with _ h1
      have : b = c.pb := by omega
      rw [this]; rfl
  · cases h
theorem ptrR_mk (x : Option Bk) : ptrR (ptrV x) = some (pd x, []) := by cases x <;> rfl
theorem zeroPB (w : World) : (zeroValue 93).run Try.prog w = .ok (.pointer none) w := by kernel_rfl
theorem lawInt : Keyed Try.prog 3 := int_keyed Try.underlying3
def wf64 (k : Int) : Prop := -9223372036854775808 ≤ k ∧ k ≤ 9223372036854775807
theorem wf_lit {k : Int} (h : wf64 k) : (Lit.int .i64 k).wf = true := by
  have h1 := h.1
  have h2 := h.2
  exact WalkArith.wf_i64 (by omega)
/-- The map at block ab leads from numbers to blocks. -/
def MapIs (ab : Nat) (st : Ms) (w : World) : Prop := ∃ D : DataW Unit, w.ownsMap Try.prog 3 ptrR ab st.length D ∧ ∀ k : Int, wf64 k → D.atKey (.int .i64 k) .nil = pd (atS st k)
theorem MapIs.look {ab : Nat} {st : Ms} {w : World} (h : MapIs ab st w) {k : Int} (hk : wf64 k) : (Instr.lookup 80 (.map (some ab)) (.int .i64 k) false).run Try.prog w = .ok (ptrV (atS st k)) w := by
  obtain ⟨D, hD, ha⟩ := h
  obtain ⟨v, ps, hr, hR⟩ := hD.lookup (t := 80) (e := 93) lawInt Try.underlying80 (zeroPB w) (zd := .nil) (zp := []) rfl (keyOf_int_mk Try.underlying3 (wf_lit hk))
  rw [ha k hk] at hR
  rw [hr, ptrR_inv hR]
/-- A memory lies in the blocks that o names: 1 the struct, 2 its map, 2 i + 3 block i, 2 i + 4 its row of cells. -/
structure MemIs (o : Nat → Nat) (mb ab : Nat) (st : Ms) (w : World) : Prop where
  inside : ∀ k, o k ≠ 0 → k < w.heap.size
  mem : o mb = 1
  map : o ab = 2
  box : Box mb [.int .i64 st.length, .map (some ab)] w
  maps : MapIs ab st w
  len : st.length ≤ 1000000
  blk : ∀ (i : Nat) (b : Bk), st[i]? = some (some b) → o b.pb = 2 * i + 3 ∧ Box b.pb (bkC b) w ∧ w.ownsRow 0 102 6 (.slice b.cp b.cs.length b.cc) b.cs.length (b.cs.flatMap celC) ∧ ∀ g, (Value.slice b.cp b.cs.length b.cc).ownBlock = some g → o g = 2 * i + 4
  fit : ∀ (i : Nat) (b : Bk), st[i]? = some (some b) → b.size ≤ 4096 ∧ b.cs.length ≤ b.size ∧ b.all.k ≠ 2 ∧ b.all.ok ∧ ∀ x ∈ b.cs, (x.y.ok ∧ wf64 x.y.bk) ∧ (x.late = true → x.y.k = 2 ∧ gone st x.y.bk = true)
theorem Box.same {g : Nat} {cs : List Value} {w w' : World} (h : Box g cs w) (hs : w.heap.size ≤ w'.heap.size) (hb : w'.heap[g]? = w.heap[g]?) : Box g cs w' :=
  ⟨Nat.lt_of_lt_of_le h.1 hs, fun i => (World.frozen?_of_block (a := ⟨g, i, none⟩) hb).trans (h.2.1 i), fun i u e => (World.cell?_of_block (a := ⟨g, i, none⟩) hb).trans (h.2.2 i u e)⟩
theorem row_same {w w' : World} {B e m n : Nat} {v : Value} {xs : List Value} (h : w.ownsRow B e m v n xs) (hb : ∀ g, v.ownBlock = some g → w'.heap[g]? = w.heap[g]?) : w'.ownsRow B e m v n xs := by
  refine ⟨h.1, ?_⟩
  rcases h.2 with h0 | ⟨g, cap, cur, rfl, h1, h2, h3⟩
  · exact .inl h0
  · exact .inr ⟨g, cap, cur, rfl, h1, (hb g rfl).trans h2, h3⟩
theorem MapIs.same {ab : Nat} {st : Ms} {w w' : World} (h : MapIs ab st w) (hb : w'.heap[ab]? = w.heap[ab]?) : MapIs ab st w' := by
  obtain ⟨D, ⟨es, clock, h1, h2⟩, ha⟩ := h
  exact ⟨D, ⟨es, clock, hb.trans h1, h2⟩, ha⟩
theorem MemIs.same {o : Nat → Nat} {mb ab : Nat} {st : Ms} {w w' : World} (h : MemIs o mb ab st w) (hs : w.heap.size ≤ w'.heap.size) (hb : ∀ k, o k ≠ 0 → w'.heap[k]? = w.heap[k]?) : MemIs o mb ab st w' where
  inside k hk := Nat.lt_of_lt_of_le (h.inside k hk) hs
  mem := h.mem
  map := h.map
  box := h.box.same hs (hb _ (by rw [h.mem]; decide))
  maps := h.maps.same (hb _ (by rw [h.map]; decide))
  len := h.len
  blk i b e := by
    obtain ⟨h1, h2, h3, h4⟩ := h.blk i b e
    exact ⟨h1, h2.same hs (hb _ (by omega)), row_same h3 (fun g hg => hb g (by have := h4 g hg; omega)), h4⟩
  fit := h.fit
theorem MemIs.later {o : Nat → Nat} {mb ab : Nat} {st : Ms} {w w' : World} (h : MemIs o mb ab st w) (hb : Below w.heap.size w w') : MemIs o mb ab st w' := h.same hb.size (fun k hk => hb.block k (h.inside k hk))
/-- But for the blocks that o names nothing has changed. -/
structure Only (o : Nat → Nat) (w w' : World) : Prop where
  os : w'.os = w.os
  tape : w'.tape = w.tape
  output : w'.output = w.output
  size : w.heap.size ≤ w'.heap.size
  block : ∀ k, k < w.heap.size → o k = 0 → w'.heap[k]? = w.heap[k]?
theorem Only.refl (o : Nat → Nat) (w : World) : Only o w w := ⟨rfl, rfl, rfl, Nat.le_refl _, fun _ _ _ => rfl⟩
theorem Only.of_below {o : Nat → Nat} {w w' : World} (h : Below w.heap.size w w') : Only o w w' := ⟨h.os, h.tape, h.output, h.size, fun k hk _ => h.block k hk⟩
/-- The names of old blocks are as they were. -/
def Ext (o o' : Nat → Nat) (w : World) : Prop := ∀ k, k < w.heap.size → o' k = o k
theorem Ext.refl (o : Nat → Nat) (w : World) : Ext o o w := fun _ _ => rfl
theorem Only.trans {o o' : Nat → Nat} {a b c : World} (h : Only o a b) (he : Ext o o' a) (k : Only o' b c) : Only o a c :=
  ⟨k.os.trans h.os, k.tape.trans h.tape, k.output.trans h.output, Nat.le_trans h.size k.size, fun i hi ho => (k.block i (Nat.lt_of_lt_of_le hi h.size) (by rw [he i hi]; exact ho)).trans (h.block i hi ho)⟩
theorem Ext.trans {o o' o2 : Nat → Nat} {a b : World} (h : Ext o o' a) (hs : a.heap.size ≤ b.heap.size) (k : Ext o' o2 b) : Ext o o2 a := fun i hi => (k i (Nat.lt_of_lt_of_le hi hs)).trans (h i hi)
/-- Behind a call on the memory. -/
def Goes (o : Nat → Nat) (mb ab : Nat) (st : Ms) (w w' : World) : Prop := ∃ o', MemIs o' mb ab st w' ∧ Only o w w' ∧ Ext o o' w
theorem Goes.read {o : Nat → Nat} {mb ab : Nat} {st : Ms} {w w' : World} (h : MemIs o mb ab st w) (hb : Below w.heap.size w w') : Goes o mb ab st w w' := ⟨o, h.later hb, Only.of_below hb, Ext.refl _ _⟩
theorem gone_out {st : Ms} {k : Int} (h : ¬ (0 ≤ k ∧ k < st.length)) : gone st k = false := by
  unfold gone
  by_cases h0 : 0 ≤ k
  · rw [decide_eq_false (show ¬ k < st.length from fun x => h ⟨h0, x⟩)]; simp
  · rw [decide_eq_false h0]; rfl
theorem gone_in {st : Ms} {k : Int} (h : 0 ≤ k ∧ k < st.length) : gone st k = (atS st k).isNone := by
  unfold gone
  rw [decide_eq_true h.1, decide_eq_true h.2]; rfl
theorem isGone_any (o : Nat → Nat) (mb ab : Nat) (st : Ms) (W : World) (k : Int) (hk : wf64 k) (h : MemIs o mb ab st W) :
    Calls Try.prog 72 #[.pointer (some ⟨mb, 0, none⟩), .int .i64 k] W fun e w' => e = .returned (.bool (gone st k)) ∧ W = w' := by
  have r0 := h.box.get 0 _ rfl
  have r1 := h.box.get 1 _ rfl
  have hl := h.maps.look hk
  by_cases h0 : 0 ≤ k
  · by_cases h1 : k < st.length
    · have HG := Lib.hid (gone_in (st := st) ⟨h0, h1⟩)
      cases e : atS st k with
      | none =>
        rw [e] at hl HG
        have hl2 : (Instr.lookup 80 (.map (some ab)) (.int .i64 k) false).run Try.prog W = .ok (.pointer none) W := hl
        clear hl h e
        go_enter Try.func72, Try.ntmps72
        go_wp2_with fail
        go_ret
        exact ⟨by rw [HG.out]; rfl, rfl⟩
      | some b =>
        rw [e] at hl HG
        have hl2 : (Instr.lookup 80 (.map (some ab)) (.int .i64 k) false).run Try.prog W = .ok (.pointer (some ⟨b.pb, 0, none⟩)) W := hl
        clear hl h e
        go_enter Try.func72, Try.ntmps72
        go_wp2_with fail
        go_ret
        exact ⟨by rw [HG.out]; rfl, rfl⟩
    · have HG := Lib.hid (gone_out (st := st) (k := k) (fun x => h1 x.2))
      clear h hl
      go_enter Try.func72, Try.ntmps72
      go_wp2_with fail
      go_ret
      exact ⟨by rw [HG.out]; rfl, rfl⟩
  · have HG := Lib.hid (gone_out (st := st) (k := k) (fun x => h0 x.1))
    clear h hl
    go_enter Try.func72, Try.ntmps72
    go_wp2_with fail
    go_ret
    exact ⟨by rw [HG.out]; rfl, rfl⟩
def sizeS (st : Ms) (k : Int) : Int := match atS st k with | none => -1 | some b => b.size
theorem Size_any (o : Nat → Nat) (mb ab : Nat) (st : Ms) (W : World) (k : Int) (hk : wf64 k) (h : MemIs o mb ab st W) :
    Calls Try.prog 32 #[.pointer (some ⟨mb, 0, none⟩), .int .i64 k] W fun e w' => e = .returned (.int .i64 (sizeS st k)) ∧ W = w' := by
  have r0 := h.box.get 0 _ rfl
  have r1 := h.box.get 1 _ rfl
  have hl := h.maps.look hk
  unfold sizeS
  cases e : atS st k with
  | none =>
    rw [e] at hl
    have hl2 : (Instr.lookup 80 (.map (some ab)) (.int .i64 k) false).run Try.prog W = .ok (.pointer none) W := hl
    clear hl h e
    go_enter Try.func32, Try.ntmps32
    go_wp2_with fail
    go_ret
    exact ⟨rfl, rfl⟩
  | some b =>
    rw [e] at hl
    have hl2 : (Instr.lookup 80 (.map (some ab)) (.int .i64 k) false).run Try.prog W = .ok (.pointer (some ⟨b.pb, 0, none⟩)) W := hl
    obtain ⟨_, _, hi⟩ := atS_some e
    have s0 := (h.blk _ _ hi).2.1.get 0 _ rfl
    clear hl h e hi
    go_enter Try.func32, Try.ntmps32
    go_wp2_with fail
    go_ret
    exact ⟨rfl, rfl⟩
end Go.Proofs.Ytkbkgbkoplcgeaa
