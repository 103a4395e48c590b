/- Several texts in one: SpPure, PsPure, PsSim, PsBnd. -/
import Derived.Lib.ItoaNum
import Derived.Test.YtjomihlnjobndaaGreatDoorMg5
/- Modules as texts: what may be said, and the text, as lists of bytes. No program here. -/
namespace Go.Proofs.YtjomihlnjobndaaGreatDoor
set_option linter.unusedVariables false
set_option linter.unusedSimpArgs false

abbrev Tx := List UInt8
def byt (s : ByteArray) : Tx := s.data.toList
/-- Between each two one text. -/
def sepBy (sep : Tx) : List Tx → Tx
  | [] => []
  | [x] => x
  | x :: y :: l => x ++ sep ++ sepBy sep (y :: l)
theorem sepBy_snoc (sep : Tx) : ∀ (l : List Tx) (x : Tx), sepBy sep (l ++ [x]) = if l = [] then x else sepBy sep l ++ sep ++ x
  | [], x => rfl
  | [y], x => rfl
  | y :: z :: l, x => by
    have h := sepBy_snoc sep (z :: l) x
    rw [if_neg (by simp)] at h ⊢
    show y ++ sep ++ sepBy sep (z :: (l ++ [x])) = y ++ sep ++ sepBy sep (z :: l) ++ sep ++ x
    rw [show z :: (l ++ [x]) = z :: l ++ [x] from rfl, h]
    simp only [List.append_assoc]
def decI (n : Int) : Tx := Lib.decDigits n.toNat
/-- The word of a type. -/
def typeT (t : Int) : Tx := if t = 0 then [118, 111, 105, 100] else if t = 65 then [112, 116, 114] else if 0 < t ∧ t < 65 then 105 :: decI t else []
def regT (n : Int) : Tx := 37 :: decI n
def blockT (n : Int) : Tx := 98 :: decI n
def listT (l : List Tx) : Tx := sepBy [44, 32] l
/-- name( types ) type, and the line's end. -/
def headT (nm : ByteArray) (ps : List Int) (rt : Int) : Tx := byt nm ++ 40 :: (listT (ps.map typeT) ++ [41, 32] ++ typeT rt ++ [10])
def varT (v : PVar) : Tx := [103, 108, 111, 98, 97, 108, 32] ++ byt v.nm ++ 32 :: (decI v.size ++ [10])
def extT (x : PExt) : Tx := [101, 120, 116, 101, 114, 110, 32] ++ headT x.nm x.ps x.rt
/-- An operand, where globals are named so. -/
def argT (gs : List PVar) (a : Arg) : Tx :=
  if a.kind = 1 then regT a.n else if a.kind = 2 then decI a.bits else if a.kind = 3 then [112, 111, 105, 115, 111, 110] else if a.kind = 4 then [110, 117, 108, 108]
  else 64 :: (match gs[a.n.toNat]? with | some g => byt g.nm | none => [])
/-- The name of what a call calls. -/
def calT (xs : List PExt) (fs : List PFn) (n : Int) : Tx :=
  if 0 ≤ n then (match fs[n.toNat]? with | some f => byt f.nm | none => []) else (match xs[(-1 - n).toNat]? with | some x => byt x.nm | none => [])
/-- What it answers. -/
def calR (xs : List PExt) (fs : List PFn) (n : Int) : Option Int :=
  if 0 ≤ n then fs[n.toNat]?.map PFn.rt else xs[(-1 - n).toNat]?.map PExt.rt
def pairT (gs : List PVar) (p : Int × Arg) : Tx := blockT p.1 ++ 32 :: argT gs p.2
/-- What stands behind the operation's word. -/
def behindT (m : PMod) (x : PIns) : Tx :=
  if 20 ≤ x.op ∧ x.op ≤ 22 then 32 :: (typeT x.n ++ 32 :: (listT (x.args.map (argT m.vs)) ++ [32, 116, 111, 32] ++ typeT x.ty))
  else if x.op = 25 then 32 :: (typeT x.ty ++ if x.args = [] then [] else 32 :: listT ((x.tg.zip x.args).map (pairT m.vs)))
  else if x.op = 26 then 32 :: decI x.n
  else if x.op = 30 then 32 :: (calT m.xs m.fs x.n ++ 40 :: (listT (x.args.map (argT m.vs)) ++ [41]))
  else if x.op = 29 ∨ x.op = 31 ∨ x.op = 32 then 32 :: listT (x.args.map (argT m.vs) ++ x.tg.map blockT)
  else if x.op = 34 ∨ x.op = 33 ∧ x.args = [] then []
  else 32 :: (typeT x.ty ++ 32 :: listT (x.args.map (argT m.vs)))
def flagsT (fl : Int) : Tx := (if fl % 2 = 1 then [32, 110, 115, 119] else []) ++ (if fl / 2 % 2 = 1 then [32, 110, 117, 119] else []) ++ (if fl / 4 = 1 then [32, 101, 120, 97, 99, 116] else [])
/-- The words of the operations, by number. -/
def opT (op : Int) : Tx :=
  (([[], [97,100,100], [115,117,98], [109,117,108], [117,100,105,118], [115,100,105,118], [117,114,101,109], [115,114,101,109], [97,110,100], [111,114], [120,111,114], [115,104,108], [108,115,104,114], [97,115,104,114],
    [101,113], [110,101], [117,108,116], [117,108,101], [115,108,116], [115,108,101], [122,101,120,116], [115,101,120,116], [116,114,117,110,99], [115,101,108,101,99,116], [102,114,101,101,122,101], [112,104,105],
    [97,108,108,111,99,97], [108,111,97,100], [115,116,111,114,101], [103,101,112], [99,97,108,108], [98,114], [98,114,105,102], [114,101,116], [104,97,108,116]] : List Tx)[op.toNat]?).getD []
def insT (m : PMod) (x : PIns) : Tx := (if 0 ≤ x.reg then regT x.reg ++ [32, 61, 32] else []) ++ (opT x.op ++ (flagsT x.fl ++ behindT m x))
def lineT (m : PMod) (x : PIns) : Tx := [32, 32] ++ insT m x ++ [10]
def blkT (m : PMod) (i : Nat) (c : List PIns) : Tx := blockT i ++ [58, 10] ++ (c.map (lineT m)).flatten
def fnT (m : PMod) (f : PFn) : Tx := [102, 117, 110, 99, 32] ++ headT f.nm f.ps f.rt ++ (f.bs.mapIdx (blkT m)).flatten ++ [101, 110, 100, 10]
def modT (m : PMod) : Tx := (m.vs.map varT).flatten ++ (m.xs.map extT).flatten ++ (m.fs.map (fnT m)).flatten

/-! What may be said; wd tells words. -/
def tyB (t : Int) : Bool := decide (0 ≤ t ∧ t ≤ 65)
def headB (wd : Tx → Bool) (nm : ByteArray) (ps : List Int) (rt : Int) : Bool := wd (byt nm) && ps.all tyB && tyB rt
def cntB (x : PIns) : Bool :=
  if x.op = 25 then decide (x.tg.length = x.args.length)
  else if x.op = 30 then decide (x.tg.length = 0)
  else if x.op = 33 then decide (x.tg.length = 0 ∧ x.args.length ≤ 1)
  else if x.op = 31 then decide (x.tg.length = 1 ∧ x.args.length = 0)
  else if x.op = 32 then decide (x.tg.length = 2 ∧ x.args.length = 1)
  else if x.op = 26 ∨ x.op = 34 then decide (x.tg.length = 0 ∧ x.args.length = 0)
  else if 20 ≤ x.op ∧ x.op ≤ 22 ∨ x.op = 24 ∨ x.op = 27 then decide (x.tg.length = 0 ∧ x.args.length = 1)
  else if x.op = 23 then decide (x.tg.length = 0 ∧ x.args.length = 3)
  else decide (x.tg.length = 0 ∧ x.args.length = 2)
def hasTyB (m : PMod) (x : PIns) : Bool :=
  if x.op = 26 ∨ x.op = 29 then decide (x.ty = 65)
  else if x.op = 30 then decide (calR m.xs m.fs x.n = some x.ty)
  else if x.op = 31 ∨ x.op = 32 ∨ x.op = 34 then decide (x.ty = 0)
  else if x.op = 33 then tyB x.ty && decide (x.args.length = 1 ∨ x.ty = 0)
  else tyB x.ty
def numB (x : PIns) : Bool :=
  if 20 ≤ x.op ∧ x.op ≤ 22 then tyB x.n else if x.op = 26 then decide (0 ≤ x.n) else if x.op = 30 then true else decide (x.n = 0)
def flB (x : PIns) : Bool := if 13 < x.op then decide (x.fl = 0) else decide (0 ≤ x.fl ∧ x.fl ≤ 7)
def regB (n : Int) : Bool := decide (0 ≤ n ∧ n ≤ 4095)
def hasRegB (x : PIns) : Bool := if x.reg = -1 then !idleB x.op else regB x.reg && (decide (x.op = 30) || idleB x.op)
def argB (m : PMod) (a : Arg) : Bool :=
  if a.kind = 1 then regB a.n && decide (a.bits = 0)
  else if a.kind = 2 then decide (a.n = 0)
  else if a.kind = 3 ∨ a.kind = 4 then decide (a.n = 0 ∧ a.bits = 0)
  else if a.kind = 5 then decide (0 ≤ a.n ∧ a.n < m.vs.length ∧ a.bits = 0)
  else false
def insB (m : PMod) (x : PIns) : Bool := decide (1 ≤ x.op ∧ x.op ≤ 34) && cntB x && hasTyB m x && numB x && flB x && hasRegB x && x.tg.all (fun t => decide (0 ≤ t ∧ t ≤ 999)) && x.args.all (argB m)
def fnB (wd : Tx → Bool) (m : PMod) (f : PFn) : Bool := headB wd f.nm f.ps f.rt && f.bs.all fun c => c.all (insB m)
def sayB (wd : Tx → Bool) (m : PMod) : Bool := m.vs.all (fun v => wd (byt v.nm) && decide (0 ≤ v.size)) && m.xs.all (fun x => headB wd x.nm x.ps x.rt) && m.fs.all (fnB wd m)

/-! The text of a part. -/
def partM (m : PMod) (k : Nat) : PMod := { m with fs := m.fs.take k }
theorem calT_part {m : PMod} {k : Nat} {n t : Int} (h : calR (partM m k).xs (partM m k).fs n = some t) : calT (partM m k).xs (partM m k).fs n = calT m.xs m.fs n := by
  unfold calR at h
  unfold calT partM at *
  simp only at h ⊢
  by_cases h0 : 0 ≤ n
  · rw [if_pos h0] at h
    rw [if_pos h0, if_pos h0]
    by_cases hk : n.toNat < k
    · rw [List.getElem?_take_of_lt hk]
    · rw [List.getElem?_take_eq_none (by omega)] at h
      simp at h
  · rw [if_neg h0, if_neg h0]
theorem behindT_part {m : PMod} {k : Nat} {x : PIns} (h : insB (partM m k) x = true) : behindT (partM m k) x = behindT m x := by
  by_cases e : x.op = 30
  · unfold insB hasTyB at h
    simp only [e, Bool.and_eq_true, decide_eq_true_eq] at h
    have hc : calR (partM m k).xs (partM m k).fs x.n = some x.ty := by
      have := h.1.1.1.1.1.2
      simpa using this
    unfold behindT
    simp only [e]
    rw [calT_part hc]
    rfl
  · unfold behindT
    simp only [e, if_false]
    rfl
theorem lineT_part {m : PMod} {k : Nat} {x : PIns} (h : insB (partM m k) x = true) : lineT (partM m k) x = lineT m x := by
  unfold lineT insT
  rw [behindT_part h]
theorem fnT_part {wd : Tx → Bool} {m : PMod} {k : Nat} {f : PFn} (h : fnB wd (partM m k) f = true) : fnT (partM m k) f = fnT m f := by
  unfold fnB at h
  rw [Bool.and_eq_true] at h
  have hb := List.all_eq_true.1 h.2
  unfold fnT
  congr 2
  refine congrArg List.flatten (List.ext_getElem (by simp) fun i h1 h2 => ?_)
  rw [List.getElem_mapIdx, List.getElem_mapIdx]
  have hi : i < f.bs.length := by simpa using h1
  have hc := List.all_eq_true.1 (hb f.bs[i] (List.getElem_mem hi))
  unfold blkT
  congr 2
  exact List.map_congr_left fun x hx => lineT_part (hc x hx)
/-- The text of a module's first functions is the beginning of its text. -/
theorem modT_part {wd : Tx → Bool} {m : PMod} {k : Nat} (h : sayB wd (partM m k) = true) : ∃ r, modT m = modT (partM m k) ++ r := by
  unfold sayB at h
  rw [Bool.and_eq_true] at h
  have hf := List.all_eq_true.1 h.2
  have e : (m.fs.take k).map (fnT (partM m k)) = (m.fs.take k).map (fnT m) := List.map_congr_left fun f hf' => fnT_part (hf f hf')
  refine ⟨((m.fs.drop k).map (fnT m)).flatten, ?_⟩
  unfold modT
  show _ = (m.vs.map varT).flatten ++ (m.xs.map extT).flatten ++ ((m.fs.take k).map (fnT (partM m k))).flatten ++ _
  have e2 : (m.fs.map (fnT m)).flatten = ((m.fs.take k).map (fnT m)).flatten ++ ((m.fs.drop k).map (fnT m)).flatten := by
    conv => lhs; rw [← List.take_append_drop k m.fs, List.map_append, List.flatten_append]
  rw [e, e2]
  simp only [List.append_assoc]
end Go.Proofs.YtjomihlnjobndaaGreatDoor
/- The parser over the pieces of a text, as a pure function: the module, or the first fault. No program here. -/
namespace Go.Proofs.YtjomihlnjobndaaGreatDoor
set_option linter.unusedVariables false
set_option linter.unusedSimpArgs false

/-- The pieces still to be read, and the names asked so far. -/
structure PS where
  ts : List Tok
  asked : List Tok
abbrev PM := StateT PS (Except Flt)
def fltAt (c : Nat) (t : Tok) : Flt := ⟨c, t.line, t.col⟩
def qNext (en : Tok) : PM Tok := do let s ← get; return s.ts.head?.getD en
def qPass : PM Unit := modify fun s => { s with ts := s.ts.tail }
def qBad {α : Type} (c : Nat) (t : Tok) : PM α := fun _ => .error (fltAt c t)
def isTk (k : Nat) (b : Tx) (t : Tok) : Bool := t.kind == k && t.body == b
def qPassed (en : Tok) (k : Nat) (b : Tx) : PM Bool := do
  let t ← qNext en
  if isTk k b t then qPass; return true
  return false
def qWant (en : Tok) (k : Nat) : PM Tok := do
  let t ← qNext en
  if t.kind == k then qPass; return t
  qBad 3 t
def qThis (en : Tok) (k : Nat) (b : Tx) : PM Unit := do
  let t ← qNext en
  if isTk k b t then qPass else qBad 3 t
def qMark (en : Tok) (c : UInt8) : PM Unit := qThis en 5 [c]
def qLineEnd (en : Tok) : PM Unit := do let _ ← qWant en 6; return ()
/-- The number that stands behind a letter. -/
def numBehind (c : UInt8) (w : Tx) (most : Nat) : Option Nat :=
  match w with
  | [] => none
  | d :: r => if d = c then (List.range (most + 1)).find? (fun n => Lib.decDigits n == r) else none
def typeOfP (w : Tx) : Option Nat :=
  if w = [118, 111, 105, 100] then some 0 else if w = [112, 116, 114] then some 65 else (numBehind 105 w 64).filter (fun n => 0 < n)
def blockOfP (t : Tok) : Option Nat := if t.kind == 1 then numBehind 98 t.body 999 else none
def numOf (t : Tok) : Nat := match Go.Lib.parseUintB 64 t.body with | .ok u => u | _ => 0
def qType (en : Tok) : PM Int := do
  let t ← qWant en 1
  match typeOfP t.body with
  | some n => return (n : Int)
  | none => qBad 7 t
def qSize (en : Tok) : PM Int := do
  let t ← qWant en 2
  if numOf t = 0 ∨ 64 < numOf t then qBad 6 t
  else return (numOf t : Int)
def qBlock (en : Tok) : PM Int := do
  let t ← qNext en
  match blockOfP t with
  | some n => qPass; return (n : Int)
  | none => qBad 3 t
/-- Items behind commas. -/
def qMore {α : Type} (en : Tok) (item : List α → PM α) : Nat → List α → PM (List α)
  | 0, acc => return acc
  | k + 1, acc => do
    if ← qPassed en 5 [44] then
      let a ← item acc
      qMore en item k (acc ++ [a])
    else return acc
def qCommas {α : Type} (en : Tok) (item : List α → PM α) : PM (List α) := do
  let a ← item []
  let s ← get
  qMore en item (s.ts.length + 1) [a]
def qBrackets {α : Type} (en : Tok) (item : List α → PM α) : PM (List α) := do
  qMark en 40
  if ← qPassed en 5 [41] then return []
  let l ← qCommas en item
  qMark en 41
  return l
def qAsk (t : Tok) : PM Int := do
  let s ← get
  set { s with asked := s.asked ++ [t] }
  return (s.asked.length : Int)
def qOperand (en : Tok) : PM Arg := do
  let t ← qNext en
  if t.kind == 3 then qPass; return ⟨1, numOf t, 0⟩
  if t.kind == 2 then qPass; return ⟨2, 0, numOf t⟩
  if t.kind == 4 then let n ← qAsk t; qPass; return ⟨5, n, 0⟩
  if isTk 1 [112, 111, 105, 115, 111, 110] t then qPass; return ⟨3, 0, 0⟩
  if isTk 1 [110, 117, 108, 108] t then qPass; return ⟨4, 0, 0⟩
  qBad 3 t
def qOperands (en : Tok) : Nat → PM (List Arg)
  | 0 => return []
  | 1 => do let a ← qOperand en; return [a]
  | k + 2 => do
    let a ← qOperand en
    qMark en 44
    let l ← qOperands en (k + 1)
    return a :: l
/-- The operation of a word. -/
def opOfP (t : Tok) : Nat := if t.kind == 1 then ((List.range 35).find? (fun k : Nat => decide (0 < k) && opT (k : Int) == t.body)).getD 0 else 0
def qFlags (en : Tok) : PM Int := do
  let a ← qPassed en 1 [110, 115, 119]
  let b ← qPassed en 1 [110, 117, 119]
  let c ← qPassed en 1 [101, 120, 97, 99, 116]
  return (if a then 1 else 0) + (if b then 2 else 0) + (if c then 4 else 0)
def qTyped (en : Tok) (x : PIns) (n : Nat) : PM PIns := do
  let t ← qType en
  let l ← qOperands en n
  return { x with ty := t, args := l }
def qForm (en : Tok) (x : PIns) : PM PIns := do
  if 20 ≤ x.op ∧ x.op ≤ 22 then
    let n ← qType en
    let a ← qOperand en
    qThis en 1 [116, 111]
    let t ← qType en
    return { x with n := n, args := [a], ty := t }
  if x.op = 23 then return ← qTyped en x 3
  if x.op = 24 ∨ x.op = 27 then return ← qTyped en x 1
  if x.op = 25 then
    let t ← qType en
    let p ← qNext en
    if p.kind == 6 then return { x with ty := t }
    let l ← qCommas en (fun _ => do let b ← qBlock en; let a ← qOperand en; return (b, a))
    return { x with ty := t, tg := l.map Prod.fst, args := l.map Prod.snd }
  if x.op = 26 then let n ← qSize en; return { x with ty := 65, n := n }
  if x.op = 29 then let l ← qOperands en 2; return { x with ty := 65, args := l }
  if x.op = 30 then
    let t ← qWant en 1
    let n ← qAsk t
    let l ← qBrackets en (fun _ => qOperand en)
    return { x with n := n, args := l }
  if x.op = 32 then
    let a ← qOperand en
    qMark en 44
    let b ← qBlock en
    qMark en 44
    let c ← qBlock en
    return { x with args := [a], tg := [b, c] }
  if x.op = 31 then let b ← qBlock en; return { x with tg := [b] }
  if x.op = 33 then
    let p ← qNext en
    if p.kind == 6 then return x
    return ← qTyped en x 1
  if x.op = 34 then return x
  let fl ← if x.op ≤ 13 then qFlags en else pure 0
  qTyped en { x with fl := fl } 2
def qInstr (en : Tok) : PM PIns := do
  let p ← qNext en
  let r : Int ← if p.kind == 3 then (do qPass; qMark en 61; return (numOf p : Int)) else pure (-1)
  let w ← qNext en
  let op := opOfP w
  if ¬ (op = 30 ∨ op ≠ 0 ∧ idleB op = decide (0 ≤ r)) then qBad 3 w
  qPass
  let x ← qForm en ⟨op, r, 0, 0, 0, [], []⟩
  qLineEnd en
  return x
def qLabel (en : Tok) (front : Tok) (bs : List (List PIns)) (n : Nat) : PM Unit := do
  if bs.length = 64 then qBad 6 front
  if n ≠ bs.length then qBad 8 front
  qPass
  qMark en 58
  qLineEnd en
def addLast (bs : List (List PIns)) (x : PIns) : List (List PIns) := bs.dropLast ++ [bs.getLast?.getD [] ++ [x]]
def qBody (en : Tok) : Nat → List (List PIns) → PM (List (List PIns))
  | 0, _ => qBad 3 en
  | k + 1, bs => do
    let s ← get
    match s.ts with
    | [] => qBad 3 en
    | front :: _ =>
      if isTk 6 [] front then qPass; return ← qBody en k bs
      match blockOfP front with
      | some n => qLabel en front bs n; qBody en k (bs ++ [[]])
      | none =>
        if bs.length = 0 then return ← qBad 3 front
        if isTk 1 [101, 110, 100] front then qPass; qLineEnd en; return bs
        if bs.flatten.length = 400 then return ← qBad 6 front
        let x ← qInstr en
        qBody en k (addLast bs x)
def qTypes (en : Tok) : PM (List Int × Int) := do
  let l ← qBrackets en (fun acc => do
    let p ← qNext en
    let t ← qType en
    if 8 ≤ acc.length then qBad 6 p
    return t)
  let r ← qType en
  return (l, r)
def hasVar (m : PMod) (w : Tx) : Bool := m.vs.any fun v => byt v.nm == w
def hasCal (m : PMod) (w : Tx) : Bool := (m.xs.any fun x => byt x.nm == w) || m.fs.any fun f => byt f.nm == w
def qName (en : Tok) (full told : Tx → Bool) : PM ByteArray := do
  let t ← qWant en 1
  if full t.body then qBad 6 t
  if told t.body then qBad 5 t
  return ⟨t.body.toArray⟩
def qLines (en : Tok) : Nat → PMod → PM PMod
  | 0, m => return m
  | k + 1, m => do
    let s ← get
    match s.ts with
    | [] => return m
    | front :: _ =>
      if isTk 6 [] front then qPass; return ← qLines en k m
      if isTk 1 [103, 108, 111, 98, 97, 108] front then
        qPass
        let nm ← qName en (fun _ => m.vs.length == 8) (hasVar m)
        let n ← qSize en
        qLineEnd en
        return ← qLines en k { m with vs := m.vs ++ [⟨nm, n⟩] }
      if isTk 1 [101, 120, 116, 101, 114, 110] front then
        qPass
        let nm ← qName en (fun _ => m.xs.length == 8) (hasCal m)
        let (ps, r) ← qTypes en
        qLineEnd en
        return ← qLines en k { m with xs := m.xs ++ [⟨nm, ps, r⟩] }
      if isTk 1 [102, 117, 110, 99] front then
        qPass
        let nm ← qName en (fun _ => m.fs.length == 8) (hasCal m)
        let (ps, r) ← qTypes en
        qLineEnd en
        let s ← get
        let bs ← qBody en (s.ts.length + 1) []
        return ← qLines en k { m with fs := m.fs ++ [⟨nm, ps, r, bs⟩] }
      qBad 3 front
/-! Names. -/
def findVarP (m : PMod) (w : Tx) : Option Int := (m.vs.findIdx? fun v => byt v.nm == w).map fun k : Nat => (k : Int)
def findCalP (m : PMod) (w : Tx) : Option Int :=
  match m.xs.findIdx? fun x => byt x.nm == w with
  | some k => some (-1 - (k : Int))
  | none => (m.fs.findIdx? fun f => byt f.nm == w).map fun k : Nat => (k : Int)
def answerP (en : Tok) (asked : List Tok) (find : Tx → Option Int) (n : Int) : Except Flt Int :=
  let t := asked.getD n.toNat en
  match find t.body with
  | some k => .ok k
  | none => .error (fltAt 4 t)
def settleA (en : Tok) (m : PMod) (asked : List Tok) (a : Arg) : Except Flt Arg := do
  if a.kind = 5 then let n ← answerP en asked (findVarP m) a.n; return { a with n := n }
  return a
def settleI (en : Tok) (m : PMod) (asked : List Tok) (x : PIns) : Except Flt PIns := do
  let x ← if x.op = 30 then (do let n ← answerP en asked (findCalP m) x.n; return { x with n := n, ty := (calR m.xs m.fs n).getD 0 }) else pure x
  let l ← x.args.mapM (settleA en m asked)
  return { x with args := l }
def settleF (en : Tok) (m : PMod) (asked : List Tok) (f : PFn) : Except Flt PFn := do
  let bs ← f.bs.mapM fun c : List PIns => c.mapM (settleI en m asked)
  return { f with bs := bs }
def settleM (en : Tok) (m : PMod) (asked : List Tok) : Except Flt PMod := do
  let fs ← m.fs.mapM (settleF en m asked)
  return { m with fs := fs }
def endTk (t : Tx) : Tok := ⟨6, [], 1 + t.count 10, runOf (fun c => c.toNat != 10) t.reverse + 1⟩
/-- The module of the pieces, or the first fault. -/
def parseP (en : Tok) (ts : List Tok) : Except Flt PMod := do
  let (m, s) ← (qLines en (ts.length + 1) ⟨[], [], []⟩).run ⟨ts, []⟩
  settleM en m s.asked
end Go.Proofs.YtjomihlnjobndaaGreatDoor
/- The parser's own steps, as functions on the pieces, the asked names and the fault that is kept; they go on behind a fault, as the program does. No program here. -/
namespace Go.Proofs.YtjomihlnjobndaaGreatDoor
set_option linter.unusedVariables false
set_option linter.unusedSimpArgs false

structure RS where
  ts : List Tok
  asked : List Tok
  flt : Option Flt
def nx (en : Tok) (s : RS) : Tok := s.ts.head?.getD en
def ps (s : RS) : RS := { s with ts := s.ts.tail }
def bd (c : Nat) (t : Tok) (s : RS) : RS := { s with ts := [], flt := some (s.flt.getD (fltAt c t)) }
/-- A piece that must be this one. -/
def sThis (en : Tok) (k : Nat) (b : Tx) (s : RS) : RS := if isTk k b (nx en s) then ps s else bd 3 (nx en s) s
def sWant (en : Tok) (k : Nat) (s : RS) : RS := if (nx en s).kind = k then ps s else ps (bd 3 (nx en s) s)
def sPassed (en : Tok) (k : Nat) (b : Tx) (s : RS) : RS := if isTk k b (nx en s) then ps s else s
def sBlock (en : Tok) (s : RS) : RS := if (blockOfP (nx en s)).isSome then ps s else ps (bd 3 (nx en s) s)
def vBlock (en : Tok) (s : RS) : Int := ((blockOfP (nx en s)).getD 0 : Nat)
def sType (en : Tok) (s : RS) : RS := if (typeOfP (nx en s).body).isSome then sWant en 1 s else bd 7 (nx en s) (sWant en 1 s)
def vType (en : Tok) (s : RS) : Int := ((typeOfP (nx en s).body).getD 0 : Nat)
def sSize (en : Tok) (s : RS) : RS := if numOf (nx en s) = 0 ∨ 64 < numOf (nx en s) then bd 6 (nx en s) (sWant en 2 s) else sWant en 2 s
def vSize (en : Tok) (s : RS) : Int := Go.IntKind.i64.wrap (numOf (nx en s))
def sAsk (t : Tok) (s : RS) : RS := { s with asked := s.asked ++ [t] }
/-- An operand. -/
def vOperand (en : Tok) (s : RS) : Arg :=
  if (nx en s).kind = 3 then ⟨1, numOf (nx en s), 0⟩
  else if (nx en s).kind = 2 then ⟨2, 0, numOf (nx en s)⟩
  else if (nx en s).kind = 4 then ⟨5, s.asked.length, 0⟩
  else if isTk 1 [112, 111, 105, 115, 111, 110] (nx en s) then ⟨3, 0, 0⟩
  else if isTk 1 [110, 117, 108, 108] (nx en s) then ⟨4, 0, 0⟩
  else ⟨0, 0, 0⟩
def sOperand (en : Tok) (s : RS) : RS :=
  if (nx en s).kind = 3 ∨ (nx en s).kind = 2 then ps s
  else if (nx en s).kind = 4 then ps (sAsk (nx en s) s)
  else if isTk 1 [112, 111, 105, 115, 111, 110] (nx en s) ∨ isTk 1 [110, 117, 108, 108] (nx en s) then ps s
  else ps (bd 3 (nx en s) s)
/-- So many more, each behind a comma. -/
def vOps (en : Tok) : Nat → RS → List Arg
  | 0, _ => []
  | k + 1, s => vOperand en (sThis en 5 [44] s) :: vOps en k (sOperand en (sThis en 5 [44] s))
def sOps (en : Tok) : Nat → RS → RS
  | 0, s => s
  | k + 1, s => sOps en k (sOperand en (sThis en 5 [44] s))
def vOperands (en : Tok) : Nat → RS → List Arg
  | 0, _ => []
  | k + 1, s => vOperand en s :: vOps en k (sOperand en s)
def sOperands (en : Tok) : Nat → RS → RS
  | 0, s => s
  | k + 1, s => sOps en k (sOperand en s)
/-- Items behind commas: what an item makes of the items ahead and of the state. -/
def sMore {β : Type} (en : Tok) (item : β × RS → β × RS) : Nat → β × RS → β × RS
  | 0, p => p
  | k + 1, p => if isTk 5 [44] (nx en p.2) then sMore en item k (item (p.1, ps p.2)) else p
def sCommas {β : Type} (en : Tok) (item : β × RS → β × RS) (p : β × RS) : β × RS := sMore en item ((item p).2.ts.length + 1) (item p)
def sBrackets {β : Type} (en : Tok) (item : β × RS → β × RS) (p : β × RS) : β × RS :=
  if isTk 5 [41] (nx en (sThis en 5 [40] p.2)) then (p.1, ps (sThis en 5 [40] p.2))
  else ((sCommas en item (p.1, sThis en 5 [40] p.2)).1, sThis en 5 [41] (sCommas en item (p.1, sThis en 5 [40] p.2)).2)
def vFlags (en : Tok) (s : RS) : Int :=
  (if isTk 1 [110, 115, 119] (nx en s) then 1 else 0) + (if isTk 1 [110, 117, 119] (nx en (sPassed en 1 [110, 115, 119] s)) then 2 else 0)
    + (if isTk 1 [101, 120, 97, 99, 116] (nx en (sPassed en 1 [110, 117, 119] (sPassed en 1 [110, 115, 119] s))) then 4 else 0)
def sFlags (en : Tok) (s : RS) : RS := sPassed en 1 [101, 120, 97, 99, 116] (sPassed en 1 [110, 117, 119] (sPassed en 1 [110, 115, 119] s))
/-- An operand more, a target more. -/
def iArg (en : Tok) (p : PIns × RS) : PIns × RS := ({ p.1 with args := p.1.args ++ [vOperand en p.2] }, sOperand en p.2)
def iTg (en : Tok) (p : PIns × RS) : PIns × RS := ({ p.1 with tg := p.1.tg ++ [vBlock en p.2] }, sBlock en p.2)
def iMark (en : Tok) (c : UInt8) (p : PIns × RS) : PIns × RS := (p.1, sThis en 5 [c] p.2)
def iArgs (en : Tok) (n : Nat) (p : PIns × RS) : PIns × RS := ({ p.1 with args := p.1.args ++ vOperands en n p.2 }, sOperands en n p.2)
def iTyped (en : Tok) (n : Nat) (p : PIns × RS) : PIns × RS := iArgs en n ({ p.1 with ty := vType en p.2 }, sType en p.2)
def iPair (en : Tok) (p : PIns × RS) : PIns × RS := iArg en (iTg en p)
def iConv (en : Tok) (p : PIns × RS) : PIns × RS :=
  ({ (iArg en ({ p.1 with n := vType en p.2 }, sType en p.2)).1 with ty := vType en (sThis en 1 [116, 111] (iArg en ({ p.1 with n := vType en p.2 }, sType en p.2)).2) },
    sType en (sThis en 1 [116, 111] (iArg en ({ p.1 with n := vType en p.2 }, sType en p.2)).2))
def iPhi (en : Tok) (p : PIns × RS) : PIns × RS :=
  if (nx en (sType en p.2)).kind = 6 then ({ p.1 with ty := vType en p.2 }, sType en p.2)
  else sCommas en (iPair en) ({ p.1 with ty := vType en p.2 }, sType en p.2)
def iCall (en : Tok) (p : PIns × RS) : PIns × RS :=
  sBrackets en (iArg en) ({ p.1 with n := (sWant en 1 p.2).asked.length }, sAsk (nx en p.2) (sWant en 1 p.2))
def iForm (en : Tok) (p : PIns × RS) : PIns × RS :=
  if 20 ≤ p.1.op ∧ p.1.op ≤ 22 then iConv en p
  else if p.1.op = 23 then iTyped en 3 p
  else if p.1.op = 24 ∨ p.1.op = 27 then iTyped en 1 p
  else if p.1.op = 25 then iPhi en p
  else if p.1.op = 26 then ({ p.1 with ty := 65, n := vSize en p.2 }, sSize en p.2)
  else if p.1.op = 29 then iArgs en 2 ({ p.1 with ty := 65 }, p.2)
  else if p.1.op = 30 then iCall en p
  else if p.1.op = 32 then iTg en (iMark en 44 (iTg en (iMark en 44 (iArg en p))))
  else if p.1.op = 31 then iTg en p
  else if p.1.op = 33 then (if (nx en p.2).kind ≠ 6 then iTyped en 1 p else p)
  else if p.1.op = 34 then p
  else if p.1.op ≤ 13 then iTyped en 2 ({ p.1 with fl := vFlags en p.2 }, sFlags en p.2)
  else iTyped en 2 p
/-- The state behind a register and its =, if there is one. -/
def sReg (en : Tok) (s : RS) : RS := if (nx en s).kind = 3 then sThis en 5 [61] (sWant en 3 s) else s
def vReg (en : Tok) (s : RS) : Int := if (nx en s).kind = 3 then (numOf (nx en s) : Int) else -1
def standsP (op r : Int) : Bool := decide (op = 30) || (decide (op ≠ 0) && (idleB op == decide (0 ≤ r)))
def sWord (en : Tok) (r : Int) (s : RS) : RS := ps (if standsP (opOfP (nx en s)) r then s else bd 3 (nx en s) s)
def iInstr (en : Tok) (s : RS) : PIns × RS :=
  ((iForm en (⟨opOfP (nx en (sReg en s)), vReg en s, 0, 0, 0, [], []⟩, sWord en (vReg en s) (sReg en s))).1,
    sWant en 6 (iForm en (⟨opOfP (nx en (sReg en s)), vReg en s, 0, 0, 0, [], []⟩, sWord en (vReg en s) (sReg en s))).2)
def bdIf (c : Prop) [Decidable c] (k : Nat) (en : Tok) (s : RS) : RS := if c then bd k (nx en s) s else s
def sLabel (en : Tok) (len n : Nat) (s : RS) : RS := sWant en 6 (sThis en 5 [58] (ps (bdIf (n ≠ len) 8 en (bdIf (len = 64) 6 en s))))
/-- The lines of a function: its blocks. -/
def iBody (en : Tok) : Nat → List (List PIns) × RS → List (List PIns) × RS
  | 0, p => (p.1, bd 3 en p.2)
  | k + 1, p =>
    match p.2.ts with
    | [] => (p.1, bd 3 en p.2)
    | front :: _ =>
      if isTk 6 [] front then iBody en k (p.1, ps p.2)
      else match blockOfP front with
        | some n => iBody en k (p.1 ++ [[]], sLabel en p.1.length n p.2)
        | none =>
          if p.1.length = 0 then iBody en k (p.1, bd 3 front p.2)
          else if isTk 1 [101, 110, 100] front then (p.1, sWant en 6 (ps p.2))
          else if p.1.flatten.length = 400 then iBody en k (p.1, bd 6 front p.2)
          else iBody en k (addLast p.1 (iInstr en p.2).1, (iInstr en p.2).2)
/-- A parameter more. -/
def iParam (en : Tok) (p : List Int × RS) : List Int × RS :=
  (p.1 ++ [vType en p.2], if 8 < (p.1 ++ [vType en p.2]).length then bd 6 (nx en p.2) (sType en p.2) else sType en p.2)
def vTypes (en : Tok) (s : RS) : List Int × Int := ((sBrackets en (iParam en) ([], s)).1, vType en (sBrackets en (iParam en) ([], s)).2)
def sTypes (en : Tok) (s : RS) : RS := sType en (sBrackets en (iParam en) ([], s)).2
def sName (en : Tok) (full : Bool) (told : Tx → Bool) (s : RS) : RS :=
  (fun s' => if told (nx en s).body then bd 5 (nx en s) s' else s') ((fun s' => if full then bd 6 (nx en s) s' else s') (sWant en 1 s))
def vName (en : Tok) (s : RS) : ByteArray := ⟨(nx en s).body.toArray⟩
def iGlobal (en : Tok) (p : PMod × RS) : PMod × RS :=
  ({ p.1 with vs := p.1.vs ++ [⟨vName en p.2, vSize en (sName en (p.1.vs.length == 8) (hasVar p.1) p.2)⟩] }, sWant en 6 (sSize en (sName en (p.1.vs.length == 8) (hasVar p.1) p.2)))
def iExtern (en : Tok) (p : PMod × RS) : PMod × RS :=
  ({ p.1 with xs := p.1.xs ++ [⟨vName en p.2, (vTypes en (sName en (p.1.xs.length == 8) (hasCal p.1) p.2)).1, (vTypes en (sName en (p.1.xs.length == 8) (hasCal p.1) p.2)).2⟩] },
    sWant en 6 (sTypes en (sName en (p.1.xs.length == 8) (hasCal p.1) p.2)))
def sHead (en : Tok) (p : PMod × RS) : RS := sWant en 6 (sTypes en (sName en (p.1.fs.length == 8) (hasCal p.1) p.2))
def iFunc (en : Tok) (p : PMod × RS) : PMod × RS :=
  ({ p.1 with fs := p.1.fs ++ [⟨vName en p.2, (vTypes en (sName en (p.1.fs.length == 8) (hasCal p.1) p.2)).1, (vTypes en (sName en (p.1.fs.length == 8) (hasCal p.1) p.2)).2,
      (iBody en ((sHead en p).ts.length + 1) ([], sHead en p)).1⟩] }, (iBody en ((sHead en p).ts.length + 1) ([], sHead en p)).2)
def iLines (en : Tok) : Nat → PMod × RS → PMod × RS
  | 0, p => p
  | k + 1, p =>
    match p.2.ts with
    | [] => p
    | front :: _ =>
      if isTk 6 [] front then iLines en k (p.1, ps p.2)
      else if isTk 1 [103, 108, 111, 98, 97, 108] front then iLines en k (iGlobal en (p.1, ps p.2))
      else if isTk 1 [101, 120, 116, 101, 114, 110] front then iLines en k (iExtern en (p.1, ps p.2))
      else if isTk 1 [102, 117, 110, 99] front then iLines en k (iFunc en (p.1, ps p.2))
      else iLines en k (p.1, bd 3 front p.2)
/-! Names. -/
def sAnswer (en : Tok) (asked : List Tok) (find : Tx → Option Int) (n : Int) (f : Option Flt) : Option Flt :=
  if (find (asked.getD n.toNat en).body).isSome then f else some (f.getD (fltAt 4 (asked.getD n.toNat en)))
end Go.Proofs.YtjomihlnjobndaaGreatDoor
/- What the pure parser answers keeps to the grammar's bounds. No program here. -/
namespace Go.Proofs.YtjomihlnjobndaaGreatDoor
set_option linter.unusedVariables false
set_option linter.unusedSimpArgs false

/-- What the pieces of a text are like. -/
structure Gd (t : Tok) : Prop where
  word : t.kind = 1 → 0 < t.body.length ∧ wordSize t.body = t.body.length
  reg : t.kind = 3 → numOf t ≤ 4095
  len : t.body.length ≤ 65536
def Gs (s : PS) : Prop := ∀ t ∈ s.ts, Gd t
/-- Whatever is answered is so, and good pieces are left. -/
def Ens {α : Type} (p : PM α) (Q : α → Prop) : Prop := ∀ s a s', Gs s → p s = .ok (a, s') → Q a ∧ Gs s'
section
variable {α β : Type}
theorem Ens.bind {p : PM α} {f : α → PM β} {Q : α → Prop} {R : β → Prop} (h : Ens p Q) (k : ∀ a, Q a → Ens (f a) R) : Ens (p >>= f) R := by
  intro s b s' hs e
  change (p s >>= fun x => f x.1 x.2) = _ at e
  cases hp : p s with
  | error e' => rw [hp] at e; cases e
  | ok x =>
    obtain ⟨a, s1⟩ := x
    rw [hp] at e
    obtain ⟨h1, h2⟩ := h s a s1 hs hp
    exact k a h1 s1 b s' h2 e
theorem Ens.pure {a : α} {Q : α → Prop} (h : Q a) : Ens (Pure.pure a) Q := by
  intro s b s' hs e
  cases e
  exact ⟨h, hs⟩
theorem Ens.mono {p : PM α} {Q R : α → Prop} (h : Ens p Q) (k : ∀ a, Q a → R a) : Ens p R := fun s a s' hs e => ⟨k a (h s a s' hs e).1, (h s a s' hs e).2⟩
theorem Ens.bad {c : Nat} {t : Tok} {Q : α → Prop} : Ens (qBad c t) Q := fun s a s' hs e => by cases e
theorem Ens.get : Ens (MonadState.get : PM PS) Gs := fun s a s' hs e => by cases e; exact ⟨hs, hs⟩
theorem Ens.ite {c : Prop} [Decidable c] {p q : PM α} {Q : α → Prop} (h : c → Ens p Q) (k : ¬ c → Ens q Q) : Ens (if c then p else q) Q := by
  by_cases e : c
  · rw [if_pos e]; exact h e
  · rw [if_neg e]; exact k e
end
theorem next_ens {en : Tok} (he : Gd en) : Ens (qNext en) Gd := fun s a s' hs e => by
  cases e
  refine ⟨?_, hs⟩
  cases h : s.ts with
  | nil => exact he
  | cons t l => exact hs t (by rw [h]; exact List.mem_cons_self ..)
theorem pass_ens : Ens qPass (fun _ => True) := fun s a s' hs e => by
  cases e
  exact ⟨trivial, fun t ht => hs t (List.mem_of_mem_tail ht)⟩
theorem passed_ens {en : Tok} (he : Gd en) (k : Nat) (b : Tx) : Ens (qPassed en k b) (fun _ => True) := by
  unfold qPassed
  refine Ens.bind (next_ens he) fun t ht => Ens.ite (fun _ => Ens.bind pass_ens fun _ _ => Ens.pure trivial) (fun _ => Ens.pure trivial)
theorem want_ens {en : Tok} (he : Gd en) (k : Nat) : Ens (qWant en k) (fun t => Gd t ∧ t.kind = k) := by
  unfold qWant
  refine Ens.bind (next_ens he) fun t ht => Ens.ite (fun h => Ens.bind pass_ens fun _ _ => Ens.pure ⟨ht, by simpa using h⟩) (fun _ => Ens.bad)
theorem this_ens {en : Tok} (he : Gd en) (k : Nat) (b : Tx) : Ens (qThis en k b) (fun _ => True) := by
  unfold qThis
  exact Ens.bind (next_ens he) fun t ht => Ens.ite (fun _ => pass_ens) (fun _ => Ens.bad)
theorem lineEnd_ens {en : Tok} (he : Gd en) : Ens (qLineEnd en) (fun _ => True) := Ens.bind (want_ens he 6) fun _ _ => Ens.pure trivial
theorem behind_le {c : UInt8} {w : Tx} {most n : Nat} (h : numBehind c w most = some n) : n ≤ most := by
  unfold numBehind at h
  split at h
  · cases h
  · split at h
    · have := List.mem_of_find?_eq_some h
      have := List.mem_range.1 this
      omega
    · cases h
theorem typeOf_le {w : Tx} {n : Nat} (h : typeOfP w = some n) : n ≤ 65 := by
  unfold typeOfP at h
  split at h
  · injection h with h; omega
  split at h
  · injection h with h; omega
  · obtain ⟨k, hk⟩ := Option.filter_eq_some_iff.1 h
    have := behind_le k
    omega
def tyI (t : Int) : Prop := 0 ≤ t ∧ t ≤ 65
theorem ty65 : tyI 65 := ⟨by decide, by decide⟩
theorem type_ens {en : Tok} (he : Gd en) : Ens (qType en) tyI := by
  unfold qType
  refine Ens.bind (want_ens he 1) fun t ht => ?_
  split
  · rename_i n hn
    have := typeOf_le hn
    exact Ens.pure ⟨by omega, by omega⟩
  · exact Ens.bad
theorem size_ens {en : Tok} (he : Gd en) : Ens (qSize en) (fun n => 1 ≤ n ∧ n ≤ 64) := by
  unfold qSize
  refine Ens.bind (want_ens he 2) fun t ht => Ens.ite (fun _ => Ens.bad) (fun h => Ens.pure ⟨by omega, by omega⟩)
def tgI (t : Int) : Prop := 0 ≤ t ∧ t ≤ 999
theorem block_ens {en : Tok} (he : Gd en) : Ens (qBlock en) tgI := by
  unfold qBlock
  refine Ens.bind (next_ens he) fun t ht => ?_
  split
  · rename_i n hn
    have : n ≤ 999 := by
      unfold blockOfP at hn
      split at hn
      · exact behind_le hn
      · cases hn
    exact Ens.bind pass_ens fun _ _ => Ens.pure ⟨by omega, by omega⟩
  · exact Ens.bad
section
variable {α : Type} {Q : α → Prop} {en : Tok} {item : List α → PM α}
theorem more_ens (he : Gd en) (hi : ∀ acc, Ens (item acc) Q) : ∀ (k : Nat) (acc : List α), (∀ a ∈ acc, Q a) → Ens (qMore en item k acc) (fun l => ∀ a ∈ l, Q a)
  | 0, acc, h => Ens.pure h
  | k + 1, acc, h => by
    unfold qMore
    refine Ens.bind (passed_ens he _ _) fun b _ => Ens.ite (fun _ => Ens.bind (hi acc) fun a ha => more_ens he hi k _ fun x hx => ?_) (fun _ => Ens.pure h)
    rcases List.mem_append.1 hx with hx | hx
    · exact h x hx
    · rw [List.mem_singleton.1 hx]; exact ha
theorem commas_ens (he : Gd en) (hi : ∀ acc, Ens (item acc) Q) : Ens (qCommas en item) (fun l => ∀ a ∈ l, Q a) := by
  unfold qCommas
  refine Ens.bind (hi []) fun a ha => Ens.bind Ens.get fun s _ => more_ens he hi _ _ fun x hx => ?_
  rw [List.mem_singleton.1 hx]; exact ha
theorem brackets_ens (he : Gd en) (hi : ∀ acc, Ens (item acc) Q) : Ens (qBrackets en item) (fun l => ∀ a ∈ l, Q a) := by
  unfold qBrackets
  refine Ens.bind (this_ens he _ _) fun _ _ => Ens.bind (passed_ens he _ _) fun b _ => Ens.ite (fun _ => Ens.pure fun a h => by simp at h) (fun _ => Ens.bind (commas_ens he hi) fun l hl => Ens.bind (this_ens he _ _) fun _ _ => Ens.pure hl)
end
theorem ask_ens (t : Tok) : Ens (qAsk t) (fun n => 0 ≤ n) := fun s a s' hs e => by
  cases e
  exact ⟨by omega, hs⟩
def arI (v : Arg) : Prop := 1 ≤ v.kind ∧ v.kind ≤ 5 ∧ (v.kind = 1 → v.n ≤ 4095) ∧ 0 ≤ v.n
theorem operand_ens {en : Tok} (he : Gd en) : Ens (qOperand en) arI := by
  unfold qOperand
  refine Ens.bind (next_ens he) fun t ht => ?_
  refine Ens.ite (fun h => Ens.bind pass_ens fun _ _ => Ens.pure ?_) fun _ => Ens.ite (fun h => Ens.bind pass_ens fun _ _ => Ens.pure ?_) fun _ => Ens.ite (fun h => Ens.bind (ask_ens t) fun n hn => Ens.bind pass_ens fun _ _ => Ens.pure ?_) fun _ => Ens.ite (fun h => Ens.bind pass_ens fun _ _ => Ens.pure ?_) fun _ => Ens.ite (fun h => Ens.bind pass_ens fun _ _ => Ens.pure ?_) fun _ => Ens.bad
  · have := ht.reg (by simpa using h)
    exact ⟨by simp, by simp, fun _ => by show (numOf t : Int) ≤ 4095; omega, by show (0 : Int) ≤ numOf t; omega⟩
  · exact ⟨by simp, by simp, fun k => by simp at k, by simp⟩
  · exact ⟨by simp, by simp, fun k => by simp at k, hn⟩
  · exact ⟨by simp, by simp, fun k => by simp at k, by simp⟩
  · exact ⟨by simp, by simp, fun k => by simp at k, by simp⟩
theorem operands_ens {en : Tok} (he : Gd en) : ∀ n, Ens (qOperands en n) (fun l => ∀ a ∈ l, arI a)
  | 0 => Ens.pure fun a h => by simp at h
  | 1 => by
    unfold qOperands
    exact Ens.bind (operand_ens he) fun a ha => Ens.pure fun x hx => by rw [List.mem_singleton.1 hx]; exact ha
  | k + 2 => by
    unfold qOperands
    exact Ens.bind (operand_ens he) fun a ha => Ens.bind (this_ens he _ _) fun _ _ => Ens.bind (operands_ens he (k + 1)) fun l hl => Ens.pure fun x hx => by
      rcases List.mem_cons.1 hx with e | hx
      · rw [e]; exact ha
      · exact hl x hx
theorem flags_ens {en : Tok} (he : Gd en) : Ens (qFlags en) (fun n => 0 ≤ n ∧ n ≤ 7) := by
  unfold qFlags
  refine Ens.bind (passed_ens he _ _) fun a _ => Ens.bind (passed_ens he _ _) fun b _ => Ens.bind (passed_ens he _ _) fun c _ => Ens.pure ?_
  cases a <;> cases b <;> cases c <;> decide
/-- An instruction as it is read: its names are not settled yet. -/
structure InI (x : PIns) : Prop where
  op : 1 ≤ x.op ∧ x.op ≤ 34
  reg : -1 ≤ x.reg ∧ x.reg ≤ 4095
  ty : tyI x.ty
  fl : 13 < x.op → x.fl = 0
  args : ∀ a ∈ x.args, arI a
  tg : ∀ t ∈ x.tg, tgI t
theorem typed_ens {en : Tok} (he : Gd en) {x : PIns} (hx : InI x) (n : Nat) : Ens (qTyped en x n) InI := by
  unfold qTyped
  exact Ens.bind (type_ens he) fun t ht => Ens.bind (operands_ens he n) fun l hl => Ens.pure ⟨hx.op, hx.reg, ht, hx.fl, hl, hx.tg⟩
theorem form_ens {en : Tok} (he : Gd en) {x : PIns} (hx : InI x) : Ens (qForm en x) InI := by
  unfold qForm
  refine Ens.ite (fun _ => Ens.bind (type_ens he) fun n hn => Ens.bind (operand_ens he) fun a ha => Ens.bind (this_ens he _ _) fun _ _ => Ens.bind (type_ens he) fun t ht => Ens.pure ⟨hx.op, hx.reg, ht, hx.fl, fun y hy => by rw [List.mem_singleton.1 hy]; exact ha, hx.tg⟩) fun _ => ?_
  refine Ens.ite (fun _ => typed_ens he hx 3) fun _ => ?_
  refine Ens.ite (fun _ => typed_ens he hx 1) fun _ => ?_
  refine Ens.ite (fun _ => Ens.bind (type_ens he) fun t ht => Ens.bind (next_ens he) fun p _ => Ens.ite (fun _ => Ens.pure ⟨hx.op, hx.reg, ht, hx.fl, hx.args, hx.tg⟩) fun _ => Ens.bind (commas_ens (Q := fun q : Int × Arg => tgI q.1 ∧ arI q.2) he fun _ => Ens.bind (block_ens he) fun b hb => Ens.bind (operand_ens he) fun a ha => Ens.pure ⟨hb, ha⟩) fun l hl => Ens.pure ⟨hx.op, hx.reg, ht, hx.fl, fun y hy => ?_, fun y hy => ?_⟩) fun _ => ?_
  · obtain ⟨q, hq, rfl⟩ := List.mem_map.1 hy
    exact (hl q hq).2
  · obtain ⟨q, hq, rfl⟩ := List.mem_map.1 hy
    exact (hl q hq).1
  refine Ens.ite (fun _ => Ens.bind (size_ens he) fun n hn => Ens.pure ⟨hx.op, hx.reg, ty65, hx.fl, hx.args, hx.tg⟩) fun _ => ?_
  refine Ens.ite (fun _ => Ens.bind (operands_ens he 2) fun l hl => Ens.pure ⟨hx.op, hx.reg, ty65, hx.fl, hl, hx.tg⟩) fun _ => ?_
  refine Ens.ite (fun _ => Ens.bind (want_ens he 1) fun t _ => Ens.bind (ask_ens t) fun n _ => Ens.bind (brackets_ens he fun _ => operand_ens he) fun l hl => Ens.pure ⟨hx.op, hx.reg, hx.ty, hx.fl, hl, hx.tg⟩) fun _ => ?_
  refine Ens.ite (fun _ => Ens.bind (operand_ens he) fun a ha => Ens.bind (this_ens he _ _) fun _ _ => Ens.bind (block_ens he) fun b hb => Ens.bind (this_ens he _ _) fun _ _ => Ens.bind (block_ens he) fun c hc => Ens.pure ⟨hx.op, hx.reg, hx.ty, hx.fl, fun y hy => by rw [List.mem_singleton.1 hy]; exact ha, fun y hy => ?_⟩) fun _ => ?_
  · rcases List.mem_cons.1 hy with e | hy
    · rw [e]; exact hb
    · rw [List.mem_singleton.1 hy]; exact hc
  refine Ens.ite (fun _ => Ens.bind (block_ens he) fun b hb => Ens.pure ⟨hx.op, hx.reg, hx.ty, hx.fl, hx.args, fun y hy => by rw [List.mem_singleton.1 hy]; exact hb⟩) fun _ => ?_
  refine Ens.ite (fun _ => Ens.bind (next_ens he) fun p _ => Ens.ite (fun _ => Ens.pure hx) fun _ => typed_ens he hx 1) fun _ => ?_
  refine Ens.ite (fun _ => Ens.pure hx) fun _ => ?_
  by_cases c : x.op ≤ 13
  · simp only [if_pos c]
    exact Ens.bind (flags_ens he) fun fl _ => typed_ens (x := { x with fl := fl }) he ⟨hx.op, hx.reg, hx.ty, fun h => by have : 13 < x.op := h; omega, hx.args, hx.tg⟩ 2
  · simp only [if_neg c]
    exact Ens.bind (Ens.pure (Q := fun z : Int => z = 0) rfl) fun fl h0 => typed_ens (x := { x with fl := fl }) he ⟨hx.op, hx.reg, hx.ty, fun _ => h0, hx.args, hx.tg⟩ 2
theorem opOf_in {w : Tok} : opOfP w = 0 ∨ (1 ≤ opOfP w ∧ opOfP w ≤ 34) := by
  unfold opOfP
  split
  · cases h : (List.range 35).find? (fun k : Nat => decide (0 < k) && opT (k : Int) == w.body) with
    | none => exact .inl rfl
    | some k =>
      have h1 := List.mem_range.1 (List.mem_of_find?_eq_some h)
      have h2 := List.find?_some h
      simp only [Bool.and_eq_true, decide_eq_true_eq] at h2
      exact .inr ⟨h2.1, by show k ≤ 34; omega⟩
  · exact .inl rfl
theorem instr_ens {en : Tok} (he : Gd en) : Ens (qInstr en) InI := by
  unfold qInstr
  refine Ens.bind (next_ens he) fun p hp => ?_
  have hr : Ens (if p.kind == 3 then (do qPass; qMark en 61; return (numOf p : Int)) else pure (-1)) (fun r : Int => -1 ≤ r ∧ r ≤ 4095) :=
    Ens.ite (fun h => Ens.bind pass_ens fun _ _ => Ens.bind (this_ens he _ _) fun _ _ => Ens.pure (by
      have := hp.reg (by simpa using h)
      exact ⟨by omega, by omega⟩)) fun _ => Ens.pure ⟨by decide, by decide⟩
  have main : ∀ r : Int, -1 ≤ r ∧ r ≤ 4095 → Ens (do
      let w ← qNext en
      let op := opOfP w
      if ¬ (op = 30 ∨ op ≠ 0 ∧ idleB op = decide (0 ≤ r)) then qBad 3 w
      qPass
      let x ← qForm en ⟨op, r, 0, 0, 0, [], []⟩
      qLineEnd en
      return x) InI := by
    intro r hr
    refine Ens.bind (next_ens he) fun w hw => ?_
    have hop := opOf_in (w := w)
    refine Ens.ite (fun _ => Ens.bind (Q := fun _ => False) Ens.bad fun _ h => h.elim) fun hc => ?_
    have h1 : 1 ≤ opOfP w ∧ opOfP w ≤ 34 := by
      rcases hop with e | e
      · exact absurd hc (fun k => k (by rw [e]; simp))
      · exact e
    refine Ens.bind pass_ens fun _ _ => Ens.bind (form_ens he (x := ⟨opOfP w, r, 0, 0, 0, [], []⟩) ⟨⟨by show (1 : Int) ≤ (opOfP w : Int); omega, by show ((opOfP w : Nat) : Int) ≤ 34; omega⟩, hr, ⟨by simp, by simp⟩, fun _ => rfl, fun a h => by simp at h, fun a h => by simp at h⟩) fun x hx => Ens.bind (lineEnd_ens he) fun _ _ => Ens.pure hx
  by_cases c : (p.kind == 3) = true
  · simp only [if_pos c] at hr ⊢
    exact Ens.bind hr main
  · simp only [if_neg c] at hr ⊢
    exact Ens.bind hr main
end Go.Proofs.YtjomihlnjobndaaGreatDoor
