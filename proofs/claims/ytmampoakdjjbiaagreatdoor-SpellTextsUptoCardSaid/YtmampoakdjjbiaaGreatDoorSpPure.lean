/- Modules as texts: what may be said, and the text, as lists of bytes. No program here. -/
import Derived.Test.YtmampoakdjjbiaaGreatDoorBaseE
import Derived.Lib.ItoaNum
namespace Go.Proofs.YtmampoakdjjbiaaGreatDoor
set_option linter.unusedVariables false
set_option linter.unusedSimpArgs false

abbrev Tx := List UInt8
def byt (s : ByteArray) : Tx := s.data.toList
/-- Between each two one text. -/
def sepBy (sep : Tx) : List Tx → Tx
  | [] => []
  | [x] => x
  | x :: y :: l => x ++ sep ++ sepBy sep (y :: l)
theorem sepBy_snoc (sep : Tx) : ∀ (l : List Tx) (x : Tx), sepBy sep (l ++ [x]) = if l = [] then x else sepBy sep l ++ sep ++ x
  | [], x => rfl
  | [y], x => rfl
  | y :: z :: l, x => by
    have h := sepBy_snoc sep (z :: l) x
    rw [if_neg (by simp)] at h ⊢
    show y ++ sep ++ sepBy sep (z :: (l ++ [x])) = y ++ sep ++ sepBy sep (z :: l) ++ sep ++ x
    rw [show z :: (l ++ [x]) = z :: l ++ [x] from rfl, h]
    simp only [List.append_assoc]
def decI (n : Int) : Tx := Lib.decDigits n.toNat
/-- The word of a type. -/
def typeT (t : Int) : Tx := if t = 0 then [118, 111, 105, 100] else if t = 65 then [112, 116, 114] else if 0 < t ∧ t < 65 then 105 :: decI t else []
def regT (n : Int) : Tx := 37 :: decI n
def blockT (n : Int) : Tx := 98 :: decI n
def listT (l : List Tx) : Tx := sepBy [44, 32] l
/-- name( types ) type, and the line's end. -/
def headT (nm : ByteArray) (ps : List Int) (rt : Int) : Tx := byt nm ++ 40 :: (listT (ps.map typeT) ++ [41, 32] ++ typeT rt ++ [10])
def varT (v : PVar) : Tx := [103, 108, 111, 98, 97, 108, 32] ++ byt v.nm ++ 32 :: (decI v.size ++ [10])
def extT (x : PExt) : Tx := [101, 120, 116, 101, 114, 110, 32] ++ headT x.nm x.ps x.rt
/-- An operand, where globals are named so. -/
def argT (gs : List PVar) (a : Arg) : Tx :=
  if a.kind = 1 then regT a.n else if a.kind = 2 then decI a.bits else if a.kind = 3 then [112, 111, 105, 115, 111, 110] else if a.kind = 4 then [110, 117, 108, 108]
  else 64 :: (match gs[a.n.toNat]? with | some g => byt g.nm | none => [])
/-- The name of what a call calls. -/
def calT (xs : List PExt) (fs : List PFn) (n : Int) : Tx :=
  if 0 ≤ n then (match fs[n.toNat]? with | some f => byt f.nm | none => []) else (match xs[(-1 - n).toNat]? with | some x => byt x.nm | none => [])
/-- What it answers. -/
def calR (xs : List PExt) (fs : List PFn) (n : Int) : Option Int :=
  if 0 ≤ n then fs[n.toNat]?.map PFn.rt else xs[(-1 - n).toNat]?.map PExt.rt
def pairT (gs : List PVar) (p : Int × Arg) : Tx := blockT p.1 ++ 32 :: argT gs p.2
/-- What stands behind the operation's word. -/
def behindT (m : PMod) (x : PIns) : Tx :=
  if 20 ≤ x.op ∧ x.op ≤ 22 then 32 :: (typeT x.n ++ 32 :: (listT (x.args.map (argT m.vs)) ++ [32, 116, 111, 32] ++ typeT x.ty))
  else if x.op = 25 then 32 :: (typeT x.ty ++ if x.args = [] then [] else 32 :: listT ((x.tg.zip x.args).map (pairT m.vs)))
  else if x.op = 26 then 32 :: decI x.n
  else if x.op = 30 then 32 :: (calT m.xs m.fs x.n ++ 40 :: (listT (x.args.map (argT m.vs)) ++ [41]))
  else if x.op = 29 ∨ x.op = 31 ∨ x.op = 32 then 32 :: listT (x.args.map (argT m.vs) ++ x.tg.map blockT)
  else if x.op = 34 ∨ x.op = 33 ∧ x.args = [] then []
  else 32 :: (typeT x.ty ++ 32 :: listT (x.args.map (argT m.vs)))
def flagsT (fl : Int) : Tx := (if fl % 2 = 1 then [32, 110, 115, 119] else []) ++ (if fl / 2 % 2 = 1 then [32, 110, 117, 119] else []) ++ (if fl / 4 = 1 then [32, 101, 120, 97, 99, 116] else [])
/-- The words of the operations, by number. -/
def opT (op : Int) : Tx :=
  (([[], [97,100,100], [115,117,98], [109,117,108], [117,100,105,118], [115,100,105,118], [117,114,101,109], [115,114,101,109], [97,110,100], [111,114], [120,111,114], [115,104,108], [108,115,104,114], [97,115,104,114],
    [101,113], [110,101], [117,108,116], [117,108,101], [115,108,116], [115,108,101], [122,101,120,116], [115,101,120,116], [116,114,117,110,99], [115,101,108,101,99,116], [102,114,101,101,122,101], [112,104,105],
    [97,108,108,111,99,97], [108,111,97,100], [115,116,111,114,101], [103,101,112], [99,97,108,108], [98,114], [98,114,105,102], [114,101,116], [104,97,108,116]] : List Tx)[op.toNat]?).getD []
def insT (m : PMod) (x : PIns) : Tx := (if 0 ≤ x.reg then regT x.reg ++ [32, 61, 32] else []) ++ (opT x.op ++ (flagsT x.fl ++ behindT m x))
def lineT (m : PMod) (x : PIns) : Tx := [32, 32] ++ insT m x ++ [10]
def blkT (m : PMod) (i : Nat) (c : List PIns) : Tx := blockT i ++ [58, 10] ++ (c.map (lineT m)).flatten
def fnT (m : PMod) (f : PFn) : Tx := [102, 117, 110, 99, 32] ++ headT f.nm f.ps f.rt ++ (f.bs.mapIdx (blkT m)).flatten ++ [101, 110, 100, 10]
def modT (m : PMod) : Tx := (m.vs.map varT).flatten ++ (m.xs.map extT).flatten ++ (m.fs.map (fnT m)).flatten

/-! What may be said; wd tells words. -/
def tyB (t : Int) : Bool := decide (0 ≤ t ∧ t ≤ 65)
def headB (wd : Tx → Bool) (nm : ByteArray) (ps : List Int) (rt : Int) : Bool := wd (byt nm) && ps.all tyB && tyB rt
def cntB (x : PIns) : Bool :=
  if x.op = 25 then decide (x.tg.length = x.args.length)
  else if x.op = 30 then decide (x.tg.length = 0)
  else if x.op = 33 then decide (x.tg.length = 0 ∧ x.args.length ≤ 1)
  else if x.op = 31 then decide (x.tg.length = 1 ∧ x.args.length = 0)
  else if x.op = 32 then decide (x.tg.length = 2 ∧ x.args.length = 1)
  else if x.op = 26 ∨ x.op = 34 then decide (x.tg.length = 0 ∧ x.args.length = 0)
  else if 20 ≤ x.op ∧ x.op ≤ 22 ∨ x.op = 24 ∨ x.op = 27 then decide (x.tg.length = 0 ∧ x.args.length = 1)
  else if x.op = 23 then decide (x.tg.length = 0 ∧ x.args.length = 3)
  else decide (x.tg.length = 0 ∧ x.args.length = 2)
def hasTyB (m : PMod) (x : PIns) : Bool :=
  if x.op = 26 ∨ x.op = 29 then decide (x.ty = 65)
  else if x.op = 30 then decide (calR m.xs m.fs x.n = some x.ty)
  else if x.op = 31 ∨ x.op = 32 ∨ x.op = 34 then decide (x.ty = 0)
  else if x.op = 33 then tyB x.ty && decide (x.args.length = 1 ∨ x.ty = 0)
  else tyB x.ty
def numB (x : PIns) : Bool :=
  if 20 ≤ x.op ∧ x.op ≤ 22 then tyB x.n else if x.op = 26 then decide (0 ≤ x.n) else if x.op = 30 then true else decide (x.n = 0)
def flB (x : PIns) : Bool := if 13 < x.op then decide (x.fl = 0) else decide (0 ≤ x.fl ∧ x.fl ≤ 7)
def regB (n : Int) : Bool := decide (0 ≤ n ∧ n ≤ 4095)
def hasRegB (x : PIns) : Bool := if x.reg = -1 then !idleB x.op else regB x.reg && (decide (x.op = 30) || idleB x.op)
def argB (m : PMod) (a : Arg) : Bool :=
  if a.kind = 1 then regB a.n && decide (a.bits = 0)
  else if a.kind = 2 then decide (a.n = 0)
  else if a.kind = 3 ∨ a.kind = 4 then decide (a.n = 0 ∧ a.bits = 0)
  else if a.kind = 5 then decide (0 ≤ a.n ∧ a.n < m.vs.length ∧ a.bits = 0)
  else false
def insB (m : PMod) (x : PIns) : Bool := decide (1 ≤ x.op ∧ x.op ≤ 34) && cntB x && hasTyB m x && numB x && flB x && hasRegB x && x.tg.all (fun t => decide (0 ≤ t ∧ t ≤ 999)) && x.args.all (argB m)
def fnB (wd : Tx → Bool) (m : PMod) (f : PFn) : Bool := headB wd f.nm f.ps f.rt && f.bs.all fun c => c.all (insB m)
def sayB (wd : Tx → Bool) (m : PMod) : Bool := m.vs.all (fun v => wd (byt v.nm) && decide (0 ≤ v.size)) && m.xs.all (fun x => headB wd x.nm x.ps x.rt) && m.fs.all (fnB wd m)

/-! The text of a part. -/
def partM (m : PMod) (k : Nat) : PMod := { m with fs := m.fs.take k }
theorem calT_part {m : PMod} {k : Nat} {n t : Int} (h : calR (partM m k).xs (partM m k).fs n = some t) : calT (partM m k).xs (partM m k).fs n = calT m.xs m.fs n := by
  unfold calR at h
  unfold calT partM at *
  simp only at h ⊢
  by_cases h0 : 0 ≤ n
  · rw [if_pos h0] at h
    rw [if_pos h0, if_pos h0]
    by_cases hk : n.toNat < k
    · rw [List.getElem?_take_of_lt hk]
    · rw [List.getElem?_take_eq_none (by omega)] at h
      simp at h
  · rw [if_neg h0, if_neg h0]
theorem behindT_part {m : PMod} {k : Nat} {x : PIns} (h : insB (partM m k) x = true) : behindT (partM m k) x = behindT m x := by
  by_cases e : x.op = 30
  · unfold insB hasTyB at h
    simp only [e, Bool.and_eq_true, decide_eq_true_eq] at h
    have hc : calR (partM m k).xs (partM m k).fs x.n = some x.ty := by
      have := h.1.1.1.1.1.2
      simpa using this
    unfold behindT
    simp only [e]
    rw [calT_part hc]
    rfl
  · unfold behindT
    simp only [e, if_false]
    rfl
theorem lineT_part {m : PMod} {k : Nat} {x : PIns} (h : insB (partM m k) x = true) : lineT (partM m k) x = lineT m x := by
  unfold lineT insT
  rw [behindT_part h]
theorem fnT_part {wd : Tx → Bool} {m : PMod} {k : Nat} {f : PFn} (h : fnB wd (partM m k) f = true) : fnT (partM m k) f = fnT m f := by
  unfold fnB at h
  rw [Bool.and_eq_true] at h
  have hb := List.all_eq_true.1 h.2
  unfold fnT
  congr 2
  refine congrArg List.flatten (List.ext_getElem (by simp) fun i h1 h2 => ?_)
  rw [List.getElem_mapIdx, List.getElem_mapIdx]
  have hi : i < f.bs.length := by simpa using h1
  have hc := List.all_eq_true.1 (hb f.bs[i] (List.getElem_mem hi))
  unfold blkT
  congr 2
  exact List.map_congr_left fun x hx => lineT_part (hc x hx)
/-- The text of a module's first functions is the beginning of its text. -/
theorem modT_part {wd : Tx → Bool} {m : PMod} {k : Nat} (h : sayB wd (partM m k) = true) : ∃ r, modT m = modT (partM m k) ++ r := by
  unfold sayB at h
  rw [Bool.and_eq_true] at h
  have hf := List.all_eq_true.1 h.2
  have e : (m.fs.take k).map (fnT (partM m k)) = (m.fs.take k).map (fnT m) := List.map_congr_left fun f hf' => fnT_part (hf f hf')
  refine ⟨((m.fs.drop k).map (fnT m)).flatten, ?_⟩
  unfold modT
  show _ = (m.vs.map varT).flatten ++ (m.xs.map extT).flatten ++ ((m.fs.take k).map (fnT (partM m k))).flatten ++ _
  have e2 : (m.fs.map (fnT m)).flatten = ((m.fs.take k).map (fnT m)).flatten ++ ((m.fs.drop k).map (fnT m)).flatten := by
    conv => lhs; rw [← List.take_append_drop k m.fs, List.map_append, List.flatten_append]
  rw [e, e2]
  simp only [List.append_assoc]
end Go.Proofs.YtmampoakdjjbiaaGreatDoor
