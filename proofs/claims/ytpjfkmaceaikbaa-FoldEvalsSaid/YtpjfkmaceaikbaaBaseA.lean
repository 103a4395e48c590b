/- What this seat takes of layer 2's texts (BaseA) -/
import Derived.Test.YtpjfkmaceaikbaaProg
import Derived.WalkKit
import Derived.Below
import Derived.Lib.Hide
import Derived.Deep.LoopGhost
import Derived.LoopN
import Derived.Maps.OwnSet
import Derived.Test.YtpjfkmaceaikbaaRows
import Derived.OpenShut
import Derived.Deep.Slices
import Derived.Deep.RegionHeld3
import Derived.Deep.DeepCutAuto
namespace Go.Proofs.Ytpjfkmaceaikbaa
open Go.RowKit Go.Maps Go.ChangeShapes Go.WideShapes Go.Deep
set_option linter.unusedVariables false
set_option linter.unusedSimpArgs false

/-- An operand. -/
structure Arg where
  kind : Int
  n : Int
  bits : Int
/-- An instruction: its five numbers, the values of its two lists, and its operands. -/
structure Ins where
  op : Int
  reg : Int
  ty : Int
  n : Int
  fl : Int
  ap : Option Addr
  al : Nat
  ac : Nat
  tp : Option Addr
  tl : Nat
  tc : Nat
  args : List Arg
def Ins.val (d : Ins) : Value := .agg #[.int .i64 d.op, .int .i64 d.reg, .int .i64 d.ty, .int .i64 d.n, .int .i64 d.fl, .slice d.ap d.al d.ac, .slice d.tp d.tl d.tc]
theorem add_block (a : Addr) (n : Nat) : (a.add n).block = a.block := by unfold Addr.add; split <;> rfl
/-- Its seven cells. -/
def InsAt (w : World) (a : Addr) (d : Ins) : Prop :=
  w.cell? a = some (.int .i64 d.op) ∧ w.cell? ⟨a.block, a.off + 1, none⟩ = some (.int .i64 d.reg) ∧ w.cell? ⟨a.block, a.off + 2, none⟩ = some (.int .i64 d.ty) ∧ w.cell? ⟨a.block, a.off + 3, none⟩ = some (.int .i64 d.n) ∧
  w.cell? ⟨a.block, a.off + 4, none⟩ = some (.int .i64 d.fl) ∧ w.cell? ⟨a.block, a.off + 5, none⟩ = some (.slice d.ap d.al d.ac) ∧ w.cell? ⟨a.block, a.off + 6, none⟩ = some (.slice d.tp d.tl d.tc)
theorem InsAt.below {B : Nat} {W w : World} {a : Addr} {d : Ins} (h : InsAt W a d) (hb : Below B W w) (ha : a.block < B) : InsAt w a d := by
  obtain ⟨h0, h1, h2, h3, h4, h5, h6⟩ := h
  exact ⟨(hb.cell ha).trans h0, (hb.cell (p := ⟨a.block, a.off + 1, none⟩) ha).trans h1, (hb.cell (p := ⟨a.block, a.off + 2, none⟩) ha).trans h2, (hb.cell (p := ⟨a.block, a.off + 3, none⟩) ha).trans h3,
    (hb.cell (p := ⟨a.block, a.off + 4, none⟩) ha).trans h4, (hb.cell (p := ⟨a.block, a.off + 5, none⟩) ha).trans h5, (hb.cell (p := ⟨a.block, a.off + 6, none⟩) ha).trans h6⟩
/-- A list of instructions, in blocks below B. -/
def CodeAt (B : Nat) (w : World) (s : Value) (l : List Ins) : Prop :=
  ∃ (p : Option Addr) (cap : Nat), s = .slice p l.length cap ∧ l.length ≤ cap ∧ cap ≤ maxLen ∧ ∀ i (h : i < l.length), ∃ a, p = some a ∧ a.block < B ∧ InsAt w (a.add (i * 7)) l[i]
def BlocksAt (B : Nat) (w : World) (s : Value) (l : List (List Ins)) : Prop :=
  ∃ (p : Option Addr) (cap : Nat), s = .slice p l.length cap ∧ l.length ≤ cap ∧ cap ≤ maxLen ∧ ∀ i (h : i < l.length), ∃ a v, p = some a ∧ a.block < B ∧ w.cell? (a.add i) = some v ∧ CodeAt B w v l[i]
theorem ret_int {k : IntKind} {a b : Int} (h : a = b) : Ending.returned (.int k a) = .returned (.int k b) := by rw [h]
theorem ret_bool {a b : Bool} (h : a = b) : Ending.returned (.bool a) = .returned (.bool b) := by rw [h]
/-- The instructions ahead of place (b, k). -/
def ahead (l : List (List Ins)) (b k : Nat) : List Ins := (l.take b).flatten ++ (l.getD b []).take k
theorem ahead_0 (l : List (List Ins)) : ahead l 0 0 = [] := by simp [ahead]
theorem ahead_next (l : List (List Ins)) (b : Nat) (h : b < l.length) : ahead l (b + 1) 0 = ahead l b l[b].length := by
  unfold ahead
  have e : l.getD b [] = l[b] := by simp [List.getD_eq_getElem?_getD, h]
  rw [List.take_succ_eq_append_getElem h, List.flatten_append, e, List.take_length, List.take_zero, List.append_nil, List.flatten_cons, List.flatten_nil, List.append_nil]
theorem ahead_succ (l : List (List Ins)) (b k : Nat) (h : b < l.length) (hk : k < l[b].length) : ahead l b (k + 1) = ahead l b k ++ [l[b][k]] := by
  unfold ahead
  have e : l.getD b [] = l[b] := by simp [List.getD_eq_getElem?_getD, h]
  rw [e, List.take_succ_eq_append_getElem hk, List.append_assoc]
theorem ahead_all (l : List (List Ins)) : ahead l l.length 0 = l.flatten := by simp [ahead]
theorem ahead_le (l : List (List Ins)) (b k : Nat) (h : b < l.length) (hk : k < l[b].length) : (ahead l b k).length < l.flatten.length := by
  have e : l.flatten = ahead l b k ++ (l[b].drop k ++ (l.drop (b + 1)).flatten) := by
    have h1 : l = l.take b ++ l[b] :: l.drop (b + 1) := by rw [List.getElem_cons_drop, List.take_append_drop]
    have e : l.getD b [] = l[b] := by simp [List.getD_eq_getElem?_getD, h]
    unfold ahead
    rw [e]
    calc l.flatten = (l.take b ++ l[b] :: l.drop (b + 1)).flatten := by rw [← h1]
      _ = _ := by rw [List.flatten_append, List.flatten_cons, List.append_assoc, ← List.append_assoc ((l[b]).take k), List.take_append_drop]
  rw [e, List.length_append, List.length_append, List.length_drop]
  omega
theorem CodeAt.below {B : Nat} {W w : World} {s : Value} {l : List Ins} (h : CodeAt B W s l) (hb : Below B W w) : CodeAt B w s l := by
  obtain ⟨p, cap, h1, h2, h3, h4⟩ := h
  refine ⟨p, cap, h1, h2, h3, fun i hi => ?_⟩
  obtain ⟨a, e, ha, hI⟩ := h4 i hi
  exact ⟨a, e, ha, hI.below hb (by rw [add_block]; exact ha)⟩
theorem BlocksAt.below {B : Nat} {W w : World} {s : Value} {l : List (List Ins)} (h : BlocksAt B W s l) (hb : Below B W w) : BlocksAt B w s l := by
  obtain ⟨p, cap, h1, h2, h3, h4⟩ := h
  refine ⟨p, cap, h1, h2, h3, fun i hi => ?_⟩
  obtain ⟨a, v, e, ha, hc, hI⟩ := h4 i hi
  exact ⟨a, v, e, ha, (hb.cell (p := a.add i) (by rw [add_block]; exact ha)).trans hc, hI.below hb⟩
/-- A block of one cell of the call's own, that may be written. -/
def One (B : Nat) (c : Nat) (v : Value) (w : World) : Prop := B ≤ c ∧ c < w.heap.size ∧ w.cell? ⟨c, 0, none⟩ = some v ∧ w.frozen? ⟨c, 0, none⟩ = false
theorem One.alloc {B c : Nat} {v : Value} {w : World} (h : One B c v w) (x : Array Value) (t : TypeId) : One B c v (w.alloc (.cells x t)) := by
  obtain ⟨h1, h2, h3, h4⟩ := h
  refine ⟨h1, by simp; omega, by rw [World.cell?_alloc_past _ _ _ h2]; exact h3, ?_⟩
  exact (((Below.refl w.heap.size w).alloc (Nat.le_refl _) _).frozen (p := ⟨c, 0, none⟩) h2).trans h4
theorem One.new {B : Nat} (w : World) (hB : B ≤ w.heap.size) (v : Value) (t : TypeId) : One B w.heap.size v (w.alloc (.cells #[v] t)) :=
  ⟨hB, by simp, by rw [World.cell?_alloc_at _ _ _ _ rfl]; rfl, World.frozen?_alloc_at _ _ _ _ rfl⟩
theorem One.new2 {B : Nat} (w : World) (hB : B ≤ w.heap.size) (x : Array Value) (t' : TypeId) (v : Value) (t : TypeId) : One B (w.heap.size + 1) v ((w.alloc (.cells x t')).alloc (.cells #[v] t)) := by
  have h := One.new (w.alloc (.cells x t')) (B := B) (by simp; omega) v t
  have e : (w.alloc (.cells x t')).heap.size = w.heap.size + 1 := by simp
  rwa [e] at h
theorem One.set {B c : Nat} {v : Value} {w : World} (h : One B c v w) (v' : Value) : One B c v' (w.setCell ⟨c, 0, none⟩ v') := by
  obtain ⟨h1, h2, h3, h4⟩ := h
  exact ⟨h1, by simpa [World.setCell] using h2, by rw [World.cell?_setCell_same' _ _ _ (by rw [h3]; rfl)], by rw [World.frozen?_setCell]; exact h4⟩
/-- From w on, nothing below B has changed. -/
def Past (B : Nat) (W w : World) : Prop := B ≤ W.heap.size ∧ Below B W w
theorem Past.refl {B : Nat} {W : World} (h : B ≤ W.heap.size) : Past B W W := ⟨h, Below.refl _ _⟩
theorem Past.size {B : Nat} {W w : World} (h : Past B W w) : B ≤ w.heap.size := Nat.le_trans h.1 h.2.size
theorem Past.alloc {B : Nat} {W w : World} (h : Past B W w) (o : Obj) : Past B W (w.alloc o) := ⟨h.1, h.2.alloc h.size o⟩
theorem Past.set {B : Nat} {W w : World} (h : Past B W w) {a : Addr} (ha : B ≤ a.block) (v : Value) : Past B W (w.setCell a v) := ⟨h.1, h.2.setCell ha v⟩
theorem Past.trans {B : Nat} {a b c : World} (h : Past B a b) (k : Past B b c) : Past B a c := ⟨h.1, h.2.trans k.2⟩
theorem Past.drew {B : Nat} {W w : World} (h : Past B W w) : Past B W w.drew := ⟨h.1, ⟨h.2.os, h.2.tape, h.2.output, h.2.size, h.2.block⟩⟩
theorem One.past {B c : Nat} {v : Value} {W w : World} (h : One B c v W) (hb : Past (c + 1) W w) : One B c v w := by
  obtain ⟨h1, h2, h3, h4⟩ := h
  exact ⟨h1, Nat.lt_of_lt_of_le h2 hb.2.size, (hb.2.cell (p := ⟨c, 0, none⟩) (Nat.lt_succ_self c)).trans h3, (hb.2.frozen (p := ⟨c, 0, none⟩) (Nat.lt_succ_self c)).trans h4⟩
theorem One.other {B c d : Nat} {v : Value} {w : World} (h : One B c v w) (hd : d ≠ c) (v' : Value) : One B c v (w.setCell ⟨d, 0, none⟩ v') := by
  obtain ⟨h1, h2, h3, h4⟩ := h
  exact ⟨h1, by simpa [World.setCell] using h2, by rw [World.cell?_setCell_other (h := fun e => hd (by injection e))]; exact h3, by rw [World.frozen?_setCell]; exact h4⟩
/-- An operand's three cells. -/
def ArgAt (w : World) (a : Addr) (v : Arg) : Prop :=
  w.cell? a = some (.int .i64 v.kind) ∧ w.cell? ⟨a.block, a.off + 1, none⟩ = some (.int .i64 v.n) ∧ w.cell? ⟨a.block, a.off + 2, none⟩ = some (.int .u64 v.bits)
theorem ArgAt.below {B : Nat} {W w : World} {a : Addr} {v : Arg} (h : ArgAt W a v) (hb : Below B W w) (ha : a.block < B) : ArgAt w a v := by
  obtain ⟨h0, h1, h2⟩ := h
  exact ⟨(hb.cell ha).trans h0, (hb.cell (p := ⟨a.block, a.off + 1, none⟩) ha).trans h1, (hb.cell (p := ⟨a.block, a.off + 2, none⟩) ha).trans h2⟩
/-- The operands of an instruction lie below B. -/
def ArgsAt (B : Nat) (w : World) (d : Ins) : Prop :=
  d.al = d.args.length ∧ d.al ≤ d.ac ∧ d.ac ≤ maxLen ∧ ∀ i (h : i < d.args.length), ∃ a, d.ap = some a ∧ a.block < B ∧ ArgAt w (a.add (i * 3)) d.args[i]
theorem ArgsAt.below {B : Nat} {W w : World} {d : Ins} (h : ArgsAt B W d) (hb : Below B W w) : ArgsAt B w d := by
  obtain ⟨h1, h2, h3, h4⟩ := h
  refine ⟨h1, h2, h3, fun i hi => ?_⟩
  obtain ⟨a, e, ha, hI⟩ := h4 i hi
  exact ⟨a, e, ha, hI.below hb (by rw [add_block]; exact ha)⟩
/-- Is an operand the register? -/
def isU (reg : Int) (v : Arg) : Bool := v.kind == 1 && v.n == reg
def usesIn (reg : Int) (l : List Arg) : Nat := (l.filter (isU reg)).length
def usesOf (reg : Int) (l : List Ins) : Nat := (l.map fun d => usesIn reg d.args).sum
theorem usesIn_le (reg : Int) (l : List Arg) : usesIn reg l ≤ l.length := List.length_filter_le _ _
theorem usesIn_succ (reg : Int) (l : List Arg) (k : Nat) (h : k < l.length) : usesIn reg (l.take (k + 1)) = usesIn reg (l.take k) + if isU reg l[k] then 1 else 0 := by
  unfold usesIn
  rw [List.take_succ_eq_append_getElem h, List.filter_append, List.length_append]
  cases hu : isU reg l[k] <;> simp [hu]
theorem usesOf_snoc (reg : Int) (l : List Ins) (d : Ins) : usesOf reg (l ++ [d]) = usesOf reg l + usesIn reg d.args := by
  unfold usesOf; rw [List.map_append, List.sum_append]; simp
/-- Every instruction's operands lie below B. -/
def AllArgs (B : Nat) (w : World) (l : List (List Ins)) : Prop := ∀ b (h : b < l.length) k (hk : k < l[b].length), ArgsAt B w l[b][k]
theorem AllArgs.below {B : Nat} {W w : World} {l : List (List Ins)} (h : AllArgs B W l) (hb : Below B W w) : AllArgs B w l := fun b h1 k h2 => (h b h1 k h2).below hb
/-- How many operands there are. -/
def argsNum (l : List Ins) : Nat := (l.map fun d => d.args.length).sum
theorem usesOf_le (reg : Int) (l : List Ins) : usesOf reg l ≤ argsNum l := by
  induction l with
  | nil => exact Nat.le_refl _
  | cons d l ih =>
    have := usesIn_le reg d.args
    unfold usesOf argsNum at *
    simp only [List.map_cons, List.sum_cons]
    omega
theorem argsNum_snoc (l : List Ins) (d : Ins) : argsNum (l ++ [d]) = argsNum l + d.args.length := by
  unfold argsNum; rw [List.map_append, List.sum_append]; simp
theorem argsNum_app (l m : List Ins) : argsNum (l ++ m) = argsNum l + argsNum m := by
  unfold argsNum; rw [List.map_append, List.sum_append]
theorem ahead_split (l : List (List Ins)) (b k : Nat) (h : b < l.length) (hk : k < l[b].length) : ∃ m, l.flatten = ahead l b k ++ ([l[b][k]] ++ m) := by
  refine ⟨l[b].drop (k + 1) ++ (l.drop (b + 1)).flatten, ?_⟩
  have h1 : l.flatten = (l.take b).flatten ++ (l[b] ++ (l.drop (b + 1)).flatten) := by
    have h1 : l = l.take b ++ l[b] :: l.drop (b + 1) := by rw [List.getElem_cons_drop, List.take_append_drop]
    calc l.flatten = (l.take b ++ l[b] :: l.drop (b + 1)).flatten := by rw [← h1]
      _ = _ := by rw [List.flatten_append, List.flatten_cons]
  have e : l.getD b [] = l[b] := by simp [List.getD_eq_getElem?_getD, h]
  have h2 : l[b] = l[b].take k ++ ([l[b][k]] ++ l[b].drop (k + 1)) := by
    rw [List.singleton_append, List.getElem_cons_drop, List.take_append_drop]
  unfold ahead
  rw [h1, e]
  calc (l.take b).flatten ++ (l[b] ++ (l.drop (b + 1)).flatten) = (l.take b).flatten ++ ((l[b].take k ++ ([l[b][k]] ++ l[b].drop (k + 1))) ++ (l.drop (b + 1)).flatten) := by rw [← h2]
    _ = _ := by simp only [List.append_assoc]
def endsB (op : Int) : Bool := decide (31 ≤ op ∧ op ≤ 34)
def idleB (op : Int) : Bool := decide (1 ≤ op ∧ op ≤ 29 ∧ op ≠ 28)
def calmB (op : Int) : Bool := decide (1 ≤ op ∧ op ≤ 29 ∧ op ≠ 4 ∧ op ≠ 5 ∧ op ≠ 6 ∧ op ≠ 7 ∧ op ≠ 25 ∧ op ≠ 26 ∧ op ≠ 27 ∧ op ≠ 28)
def resV (op ty : Int) : Int := if op < 1 ∨ 30 < op ∨ op = 28 then 0 else if op = 26 ∨ op = 29 then 65 else if 14 ≤ op ∧ op ≤ 19 then 1 else ty
theorem Idle_any (op : Int) (W : World) : Calls Try.prog 21 #[.int .i64 op] W fun e w' => e = .returned (.bool (idleB op)) ∧ W = w' := by
  unfold idleB
  go_enter Try.func21, Try.ntmps21
  go_wp2
  all_goals go_ret
  all_goals exact ⟨ret_bool (by rw [Bool.eq_iff_iff]; simp; omega), rfl⟩
theorem Calm_any (op : Int) (W : World) : Calls Try.prog 10 #[.int .i64 op] W fun e w' => e = .returned (.bool (calmB op)) ∧ W = w' := by
  have ci := Idle_any op
  have hc : calmB op = (idleB op && !decide (op = 4 ∨ op = 5 ∨ op = 6 ∨ op = 7 ∨ op = 25 ∨ op = 26 ∨ op = 27)) := by unfold calmB idleB; rw [Bool.eq_iff_iff]; simp; omega
  rw [hc]
  clear hc
  generalize idleB op = I at *
  go_enter Try.func10, Try.ntmps10
  go_wp2_with ((with_reducible refine (ci _).mono ?_); rintro e w' ⟨rfl, rfl⟩)
  all_goals go_ret
  all_goals exact ⟨ret_bool (by simp_all), rfl⟩
theorem res_cases (op : Int) : op < 1 ∨ (1 ≤ op ∧ op ≤ 13) ∨ (14 ≤ op ∧ op ≤ 19) ∨ (20 ≤ op ∧ op ≤ 25) ∨ op = 26 ∨ op = 27 ∨ op = 28 ∨ op = 29 ∨ op = 30 ∨ (31 ≤ op ∧ op ≤ 34) ∨ 34 < op := by omega
set_option maxHeartbeats 1000000 in
theorem rResult_any (op rg ty n fl : Int) (ap tp : Option Addr) (al ac tl tc : Nat) (W : World) :
    Calls Try.prog 15 #[.agg #[.int .i64 op, .int .i64 rg, .int .i64 ty, .int .i64 n, .int .i64 fl, .slice ap al ac, .slice tp tl tc]] W fun e w' =>
      e = .returned (.int .i64 (resV op ty)) ∧ w' = W.alloc (.cells #[.int .i64 op, .int .i64 rg, .int .i64 ty, .int .i64 n, .int .i64 fl, .slice ap al ac, .slice tp tl tc] 25) := by
  rcases res_cases op with h | ⟨h, h'⟩ | ⟨h, h'⟩ | ⟨h, h'⟩ | rfl | rfl | rfl | rfl | rfl | ⟨h, h'⟩ | h
  · have hR : resV op ty = 0 := by unfold resV; (repeat' split) <;> first | rfl | (exfalso; omega)
    rw [hR]
    clear hR
    have e14 : (op == 14) = false := by simpa using (show ¬ op = 14 by omega)
    have e15 : (op == 15) = false := by simpa using (show ¬ op = 15 by omega)
    have e16 : (op == 16) = false := by simpa using (show ¬ op = 16 by omega)
    have e17 : (op == 17) = false := by simpa using (show ¬ op = 17 by omega)
    have e18 : (op == 18) = false := by simpa using (show ¬ op = 18 by omega)
    have e19 : (op == 19) = false := by simpa using (show ¬ op = 19 by omega)
    have e26 : (op == 26) = false := by simpa using (show ¬ op = 26 by omega)
    have e28 : (op == 28) = false := by simpa using (show ¬ op = 28 by omega)
    have e29 : (op == 29) = false := by simpa using (show ¬ op = 29 by omega)
    go_enter Try.func15, Try.ntmps15
    go_wp2
    go_ret
    exact ⟨rfl, rfl⟩
  · have hR : resV op ty = ty := by unfold resV; (repeat' split) <;> first | rfl | (exfalso; omega)
    rw [hR]
    clear hR
    have e14 : (op == 14) = false := by simpa using (show ¬ op = 14 by omega)
    have e15 : (op == 15) = false := by simpa using (show ¬ op = 15 by omega)
    have e16 : (op == 16) = false := by simpa using (show ¬ op = 16 by omega)
    have e17 : (op == 17) = false := by simpa using (show ¬ op = 17 by omega)
    have e18 : (op == 18) = false := by simpa using (show ¬ op = 18 by omega)
    have e19 : (op == 19) = false := by simpa using (show ¬ op = 19 by omega)
    have e26 : (op == 26) = false := by simpa using (show ¬ op = 26 by omega)
    have e28 : (op == 28) = false := by simpa using (show ¬ op = 28 by omega)
    have e29 : (op == 29) = false := by simpa using (show ¬ op = 29 by omega)
    go_enter Try.func15, Try.ntmps15
    go_wp2
    go_ret
    exact ⟨rfl, rfl⟩
  · have hR : resV op ty = 1 := by unfold resV; (repeat' split) <;> first | rfl | (exfalso; omega)
    rw [hR]
    clear hR
    have h6 : op = 14 ∨ op = 15 ∨ op = 16 ∨ op = 17 ∨ op = 18 ∨ op = 19 := by omega
    clear h h'
    rcases h6 with rfl | rfl | rfl | rfl | rfl | rfl
    all_goals
      go_enter Try.func15, Try.ntmps15
      go_wp2
      go_ret
      exact ⟨rfl, rfl⟩
  · have hR : resV op ty = ty := by unfold resV; (repeat' split) <;> first | rfl | (exfalso; omega)
    rw [hR]
    clear hR
    have e14 : (op == 14) = false := by simpa using (show ¬ op = 14 by omega)
    have e15 : (op == 15) = false := by simpa using (show ¬ op = 15 by omega)
    have e16 : (op == 16) = false := by simpa using (show ¬ op = 16 by omega)
    have e17 : (op == 17) = false := by simpa using (show ¬ op = 17 by omega)
    have e18 : (op == 18) = false := by simpa using (show ¬ op = 18 by omega)
    have e19 : (op == 19) = false := by simpa using (show ¬ op = 19 by omega)
    have e26 : (op == 26) = false := by simpa using (show ¬ op = 26 by omega)
    have e28 : (op == 28) = false := by simpa using (show ¬ op = 28 by omega)
    have e29 : (op == 29) = false := by simpa using (show ¬ op = 29 by omega)
    go_enter Try.func15, Try.ntmps15
    go_wp2
    go_ret
    exact ⟨rfl, rfl⟩
  · have hR : resV 26 ty = 65 := rfl
    rw [hR]
    clear hR
    go_enter Try.func15, Try.ntmps15
    go_wp2
    go_ret
    exact ⟨rfl, rfl⟩
  · have hR : resV 27 ty = ty := rfl
    rw [hR]
    clear hR
    go_enter Try.func15, Try.ntmps15
    go_wp2
    go_ret
    exact ⟨rfl, rfl⟩
  · have hR : resV 28 ty = 0 := rfl
    rw [hR]
    clear hR
    go_enter Try.func15, Try.ntmps15
    go_wp2
    go_ret
    exact ⟨rfl, rfl⟩
  · have hR : resV 29 ty = 65 := rfl
    rw [hR]
    clear hR
    go_enter Try.func15, Try.ntmps15
    go_wp2
    go_ret
    exact ⟨rfl, rfl⟩
  · have hR : resV 30 ty = ty := rfl
    rw [hR]
    clear hR
    go_enter Try.func15, Try.ntmps15
    go_wp2
    go_ret
    exact ⟨rfl, rfl⟩
  · have hR : resV op ty = 0 := by unfold resV; (repeat' split) <;> first | rfl | (exfalso; omega)
    rw [hR]
    clear hR
    have e14 : (op == 14) = false := by simpa using (show ¬ op = 14 by omega)
    have e15 : (op == 15) = false := by simpa using (show ¬ op = 15 by omega)
    have e16 : (op == 16) = false := by simpa using (show ¬ op = 16 by omega)
    have e17 : (op == 17) = false := by simpa using (show ¬ op = 17 by omega)
    have e18 : (op == 18) = false := by simpa using (show ¬ op = 18 by omega)
    have e19 : (op == 19) = false := by simpa using (show ¬ op = 19 by omega)
    have e26 : (op == 26) = false := by simpa using (show ¬ op = 26 by omega)
    have e28 : (op == 28) = false := by simpa using (show ¬ op = 28 by omega)
    have e29 : (op == 29) = false := by simpa using (show ¬ op = 29 by omega)
    go_enter Try.func15, Try.ntmps15
    go_wp2
    go_ret
    exact ⟨rfl, rfl⟩
  · have hR : resV op ty = 0 := by unfold resV; (repeat' split) <;> first | rfl | (exfalso; omega)
    rw [hR]
    clear hR
    have e14 : (op == 14) = false := by simpa using (show ¬ op = 14 by omega)
    have e15 : (op == 15) = false := by simpa using (show ¬ op = 15 by omega)
    have e16 : (op == 16) = false := by simpa using (show ¬ op = 16 by omega)
    have e17 : (op == 17) = false := by simpa using (show ¬ op = 17 by omega)
    have e18 : (op == 18) = false := by simpa using (show ¬ op = 18 by omega)
    have e19 : (op == 19) = false := by simpa using (show ¬ op = 19 by omega)
    have e26 : (op == 26) = false := by simpa using (show ¬ op = 26 by omega)
    have e28 : (op == 28) = false := by simpa using (show ¬ op = 28 by omega)
    have e29 : (op == 29) = false := by simpa using (show ¬ op = 29 by omega)
    go_enter Try.func15, Try.ntmps15
    go_wp2
    go_ret
    exact ⟨rfl, rfl⟩
def tab : Nat → Int
  | 0 => 4
  | 1 => 5
  | 2 => 6
  | 3 => 7
  | 4 => 25
  | 5 => 26
  | 6 => 27
  | _ => 28
set_option maxHeartbeats 2000000 in
theorem rCalm_any (op : Int) (W : World) : Calls Try.prog 13 #[.int .i64 op] W fun e w' => e = .returned (.bool (calmB op)) ∧ w' = W.alloc (.cells #[.int .i64 4, .int .i64 5, .int .i64 6, .int .i64 7, .int .i64 25, .int .i64 26, .int .i64 27, .int .i64 28] 3) := by
  go_enter Try.func13, Try.ntmps13
  go_wp2
  go_loopw [4] (fun t wr => ∃ k : Nat, k ≤ 8 ∧ t = .int .i64 k ∧ wr = W.alloc (.cells #[.int .i64 4, .int .i64 5, .int .i64 6, .int .i64 7, .int .i64 25, .int .i64 26, .int .i64 27, .int .i64 28] 3) ∧ ∀ j, j < k → op ≠ tab j) (fun t _ => 8 - (intOf t).toNat)
  case atStart => exact ⟨0, by omega, rfl, rfl, fun j h => absurd h (Nat.not_lt_zero j)⟩
  case round =>
    obtain ⟨k, hk, rfl, rfl, hne⟩ := hrel
    have HNE := Lib.hid hne
    clear hne
    by_cases hlt : k < 8
    · have h8 : k = 0 ∨ k = 1 ∨ k = 2 ∨ k = 3 ∨ k = 4 ∨ k = 5 ∨ k = 6 ∨ k = 7 := by omega
      clear hk hlt
      rcases h8 with rfl | rfl | rfl | rfl | rfl | rfl | rfl | rfl
      · by_cases e : op = 4
        · subst e
          go_wp2
          go_ret
          exact ⟨ret_bool rfl, rfl⟩
        · have e1 : ((4 : Int) == op) = false := by simpa using (show ¬ (4 : Int) = op by omega)
          have e2 : (op == 4) = false := by simpa using e
          have hn : ∀ j, j < 1 → op ≠ tab j := fun j hj => by
            by_cases hj2 : j = 0
            · subst hj2; exact e
            · exact HNE.out j (by omega)
          have HN := Lib.hid hn
          clear hn e
          go_wp2
          exact ⟨⟨1, by omega, by first | trivial | rfl, by first | trivial | rfl, HN.out⟩, by simp [intOf]⟩
      · by_cases e : op = 5
        · subst e
          go_wp2
          go_ret
          exact ⟨ret_bool rfl, rfl⟩
        · have e1 : ((5 : Int) == op) = false := by simpa using (show ¬ (5 : Int) = op by omega)
          have e2 : (op == 5) = false := by simpa using e
          have hn : ∀ j, j < 2 → op ≠ tab j := fun j hj => by
            by_cases hj2 : j = 1
            · subst hj2; exact e
            · exact HNE.out j (by omega)
          have HN := Lib.hid hn
          clear hn e
          go_wp2
          exact ⟨⟨2, by omega, by first | trivial | rfl, by first | trivial | rfl, HN.out⟩, by simp [intOf]⟩
      · by_cases e : op = 6
        · subst e
          go_wp2
          go_ret
          exact ⟨ret_bool rfl, rfl⟩
        · have e1 : ((6 : Int) == op) = false := by simpa using (show ¬ (6 : Int) = op by omega)
          have e2 : (op == 6) = false := by simpa using e
          have hn : ∀ j, j < 3 → op ≠ tab j := fun j hj => by
            by_cases hj2 : j = 2
            · subst hj2; exact e
            · exact HNE.out j (by omega)
          have HN := Lib.hid hn
          clear hn e
          go_wp2
          exact ⟨⟨3, by omega, by first | trivial | rfl, by first | trivial | rfl, HN.out⟩, by simp [intOf]⟩
      · by_cases e : op = 7
        · subst e
          go_wp2
          go_ret
          exact ⟨ret_bool rfl, rfl⟩
        · have e1 : ((7 : Int) == op) = false := by simpa using (show ¬ (7 : Int) = op by omega)
          have e2 : (op == 7) = false := by simpa using e
          have hn : ∀ j, j < 4 → op ≠ tab j := fun j hj => by
            by_cases hj2 : j = 3
            · subst hj2; exact e
            · exact HNE.out j (by omega)
          have HN := Lib.hid hn
          clear hn e
          go_wp2
          exact ⟨⟨4, by omega, by first | trivial | rfl, by first | trivial | rfl, HN.out⟩, by simp [intOf]⟩
      · by_cases e : op = 25
        · subst e
          go_wp2
          go_ret
          exact ⟨ret_bool rfl, rfl⟩
        · have e1 : ((25 : Int) == op) = false := by simpa using (show ¬ (25 : Int) = op by omega)
          have e2 : (op == 25) = false := by simpa using e
          have hn : ∀ j, j < 5 → op ≠ tab j := fun j hj => by
            by_cases hj2 : j = 4
            · subst hj2; exact e
            · exact HNE.out j (by omega)
          have HN := Lib.hid hn
          clear hn e
          go_wp2
          exact ⟨⟨5, by omega, by first | trivial | rfl, by first | trivial | rfl, HN.out⟩, by simp [intOf]⟩
      · by_cases e : op = 26
        · subst e
          go_wp2
          go_ret
          exact ⟨ret_bool rfl, rfl⟩
        · have e1 : ((26 : Int) == op) = false := by simpa using (show ¬ (26 : Int) = op by omega)
          have e2 : (op == 26) = false := by simpa using e
          have hn : ∀ j, j < 6 → op ≠ tab j := fun j hj => by
            by_cases hj2 : j = 5
            · subst hj2; exact e
            · exact HNE.out j (by omega)
          have HN := Lib.hid hn
          clear hn e
          go_wp2
          exact ⟨⟨6, by omega, by first | trivial | rfl, by first | trivial | rfl, HN.out⟩, by simp [intOf]⟩
      · by_cases e : op = 27
        · subst e
          go_wp2
          go_ret
          exact ⟨ret_bool rfl, rfl⟩
        · have e1 : ((27 : Int) == op) = false := by simpa using (show ¬ (27 : Int) = op by omega)
          have e2 : (op == 27) = false := by simpa using e
          have hn : ∀ j, j < 7 → op ≠ tab j := fun j hj => by
            by_cases hj2 : j = 6
            · subst hj2; exact e
            · exact HNE.out j (by omega)
          have HN := Lib.hid hn
          clear hn e
          go_wp2
          exact ⟨⟨7, by omega, by first | trivial | rfl, by first | trivial | rfl, HN.out⟩, by simp [intOf]⟩
      · by_cases e : op = 28
        · subst e
          go_wp2
          go_ret
          exact ⟨ret_bool rfl, rfl⟩
        · have e1 : ((28 : Int) == op) = false := by simpa using (show ¬ (28 : Int) = op by omega)
          have e2 : (op == 28) = false := by simpa using e
          have hn : ∀ j, j < 8 → op ≠ tab j := fun j hj => by
            by_cases hj2 : j = 7
            · subst hj2; exact e
            · exact HNE.out j (by omega)
          have HN := Lib.hid hn
          clear hn e
          go_wp2
          exact ⟨⟨8, by omega, by first | trivial | rfl, by first | trivial | rfl, HN.out⟩, by simp [intOf]⟩
    · obtain rfl : k = 8 := by omega
      have n0 := HNE.out 0 (by omega)
      have n1 := HNE.out 1 (by omega)
      have n2 := HNE.out 2 (by omega)
      have n3 := HNE.out 3 (by omega)
      have n4 := HNE.out 4 (by omega)
      have n5 := HNE.out 5 (by omega)
      have n6 := HNE.out 6 (by omega)
      have n7 := HNE.out 7 (by omega)
      simp only [tab] at n0 n1 n2 n3 n4 n5 n6 n7
      have hc : calmB op = (decide (1 ≤ op) && decide (op ≤ 29)) := by unfold calmB; rw [Bool.eq_iff_iff]; simp; omega
      have HC := Lib.hid hc
      clear hc n0 n1 n2 n3 n4 n5 n6 n7
      go_wp2
      all_goals go_ret
      all_goals exact ⟨ret_bool (by rw [HC.out]; first | (simp_all; done) | (simp_all; omega) | (simp; omega)), rfl⟩
/-- A block of three cells of the call's own, that may be written. -/
def Tri (B : Nat) (g : Nat) (x y z : Value) (w : World) : Prop :=
  B ≤ g ∧ g < w.heap.size ∧ w.cell? ⟨g, 0, none⟩ = some x ∧ w.cell? ⟨g, 1, none⟩ = some y ∧ w.cell? ⟨g, 2, none⟩ = some z ∧ ∀ i, w.frozen? ⟨g, i, none⟩ = false
theorem Tri.past {B g : Nat} {x y z : Value} {W w : World} (h : Tri B g x y z W) (hb : Below W.heap.size W w) : Tri B g x y z w := by
  obtain ⟨h0, h1, h2, h3, h4, h5⟩ := h
  exact ⟨h0, Nat.lt_of_lt_of_le h1 hb.size, (hb.cell (p := ⟨g, 0, none⟩) h1).trans h2, (hb.cell (p := ⟨g, 1, none⟩) h1).trans h3, (hb.cell (p := ⟨g, 2, none⟩) h1).trans h4, fun i => (hb.frozen (p := ⟨g, i, none⟩) h1).trans (h5 i)⟩
theorem Tri.alloc {B g : Nat} {x y z : Value} {w : World} (h : Tri B g x y z w) (c : Array Value) (t : TypeId) : Tri B g x y z (w.alloc (.cells c t)) := h.past ((Below.refl _ _).alloc (Nat.le_refl _) _)
theorem Tri.new {B : Nat} (w : World) (hB : B ≤ w.heap.size) (x y z : Value) (t : TypeId) : Tri B w.heap.size x y z (w.alloc (.cells #[x, y, z] t)) :=
  ⟨hB, by simp, by rw [World.cell?_alloc_at _ _ _ _ rfl]; rfl, by rw [World.cell?_alloc_at _ _ _ _ rfl]; rfl, by rw [World.cell?_alloc_at _ _ _ _ rfl]; rfl, fun i => World.frozen?_alloc_at _ _ _ _ rfl⟩
theorem Tri.other {B g : Nat} {x y z : Value} {w : World} (h : Tri B g x y z w) {d : Nat} (hd : d ≠ g) (i : Nat) (v : Value) : Tri B g x y z (w.setCell ⟨d, i, none⟩ v) := by
  obtain ⟨h0, h1, h2, h3, h4, h5⟩ := h
  exact ⟨h0, by simpa [World.setCell] using h1, by rw [World.cell?_setCell_other (h := fun e => hd (by injection e))]; exact h2, by rw [World.cell?_setCell_other (h := fun e => hd (by injection e))]; exact h3,
    by rw [World.cell?_setCell_other (h := fun e => hd (by injection e))]; exact h4, fun i => by rw [World.frozen?_setCell]; exact h5 i⟩
theorem Tri.set {B g : Nat} {x y z : Value} {w : World} (h : Tri B g x y z w) (x' y' z' : Value) : Tri B g x' y' z' (((w.setCell ⟨g, 0, none⟩ x').setCell ⟨g, 1, none⟩ y').setCell ⟨g, 2, none⟩ z') := by
  obtain ⟨h0, h1, h2, h3, h4, h5⟩ := h
  have ne : ∀ i j : Nat, i ≠ j → (⟨g, i, none⟩ : Addr) ≠ ⟨g, j, none⟩ := fun i j h h2 => h (by injection h2)
  refine ⟨h0, by simpa [World.setCell] using h1, ?_, ?_, ?_, fun i => by simp only [World.frozen?_setCell]; exact h5 i⟩
  · rw [World.cell?_setCell_other (h := ne 2 0 (by decide)), World.cell?_setCell_other (h := ne 1 0 (by decide)), World.cell?_setCell_same' _ _ _ (by rw [h2]; rfl)]
  · rw [World.cell?_setCell_other (h := ne 2 1 (by decide)), World.cell?_setCell_same' _ _ _ (by rw [World.cell?_setCell_other (h := ne 0 1 (by decide)), h3]; rfl)]
  · rw [World.cell?_setCell_same' _ _ _ (by rw [World.cell?_setCell_other (h := ne 1 2 (by decide)), World.cell?_setCell_other (h := ne 0 2 (by decide)), h4]; rfl)]
theorem One.other' {B c : Nat} {v : Value} {w : World} (h : One B c v w) {d : Nat} (hd : d ≠ c) (i : Nat) (v' : Value) : One B c v (w.setCell ⟨d, i, none⟩ v') := by
  obtain ⟨h1, h2, h3, h4⟩ := h
  exact ⟨h1, by simpa [World.setCell] using h2, by rw [World.cell?_setCell_other (h := fun e => hd (by injection e))]; exact h3, by rw [World.frozen?_setCell]; exact h4⟩
theorem Past.below {B : Nat} {W w : World} (h : Past B W w) : Below B W w := h.2
theorem Tri.set' {B g : Nat} {x y z x' y' z' : Value} {w : World} (h : Tri B g x y z w) : Tri B g x' y' z' (((w.setCell ⟨g, 0, none⟩ x').setCell ⟨g, 1, none⟩ y').setCell ⟨g, 2, none⟩ z') := h.set x' y' z'
/-- Does an instruction make the register? -/
def mk (reg : Int) (d : Ins) : Bool := d.reg == reg && resV d.op d.ty != 0
/-- Is a place ahead of another one? -/
def before (b' k' b k : Nat) : Prop := b' < b ∨ (b' = b ∧ k' < k)
/-- Is the register made there? -/
def hit (reg : Int) (l : List (List Ins)) (b k : Nat) : Prop := ∃ c d, l[b]? = some c ∧ c[k]? = some d ∧ mk reg d = true
/-- What has been found ahead of a place: the first that makes the register, if there is one. -/
def DefS (l : List (List Ins)) (reg : Int) (b k : Nat) (f : Bool) (y z : Int) : Prop :=
  (f = false ∧ y = 0 ∧ z = 0 ∧ ∀ b' k', before b' k' b k → ¬ hit reg l b' k') ∨
  (f = true ∧ ∃ b' k' : Nat, y = b' ∧ z = k' ∧ before b' k' b k ∧ hit reg l b' k' ∧ ∀ b2 k2, before b2 k2 b' k' → ¬ hit reg l b2 k2)
theorem DefS.start (l : List (List Ins)) (reg : Int) : DefS l reg 0 0 false 0 0 := .inl ⟨rfl, rfl, rfl, fun b' k' h => by rcases h with h | ⟨_, h⟩ <;> exact absurd h (Nat.not_lt_zero _)⟩
theorem DefS.next {l : List (List Ins)} {reg : Int} {b : Nat} (h : b < l.length) {f : Bool} {y z : Int} (hd : DefS l reg b l[b].length f y z) : DefS l reg (b + 1) 0 f y z := by
  rcases hd with ⟨hf, hy, hz, hn⟩ | ⟨hf, b', k', hy, hz, hb, hh, hn⟩
  · refine .inl ⟨hf, hy, hz, fun b' k' hb hh => ?_⟩
    obtain ⟨c, d, h1, h2, h3⟩ := hh
    refine hn b' k' ?_ ⟨c, d, h1, h2, h3⟩
    rcases hb with hb | ⟨_, hb⟩
    · by_cases e : b' = b
      · subst e
        rw [List.getElem?_eq_getElem h] at h1
        obtain rfl := Option.some.inj h1
        exact .inr ⟨rfl, (List.getElem?_eq_some_iff.1 h2).1⟩
      · exact .inl (by omega)
    · exact absurd hb (Nat.not_lt_zero _)
  · refine .inr ⟨hf, b', k', hy, hz, ?_, hh, hn⟩
    rcases hb with hb | ⟨rfl, _⟩
    · exact .inl (by omega)
    · exact .inl (by omega)
theorem DefS.step {l : List (List Ins)} {reg : Int} {b k : Nat} (h : b < l.length) (hk : k < l[b].length) {f : Bool} {y z : Int} (hd : DefS l reg b k f y z) :
    DefS l reg b (k + 1) (f || mk reg l[b][k]) (if !f && mk reg l[b][k] then b else y) (if !f && mk reg l[b][k] then k else z) := by
  rcases hd with ⟨rfl, rfl, rfl, hn⟩ | ⟨rfl, b', k', hy, hz, hb, hh, hn⟩
  · cases hm : mk reg l[b][k]
    · refine .inl ⟨rfl, rfl, rfl, fun b' k' hb hh => ?_⟩
      rcases hb with hb | ⟨rfl, hb⟩
      · exact hn b' k' (.inl hb) hh
      · by_cases e : k' = k
        · subst e
          obtain ⟨c, d, h1, h2, h3⟩ := hh
          rw [List.getElem?_eq_getElem h] at h1
          obtain rfl := Option.some.inj h1
          rw [List.getElem?_eq_getElem hk] at h2
          obtain rfl := Option.some.inj h2
          rw [hm] at h3
          exact absurd h3 (by decide)
        · exact hn _ _ (.inr ⟨rfl, by omega⟩) hh
    · exact .inr ⟨rfl, b, k, rfl, rfl, .inr ⟨rfl, by omega⟩, ⟨l[b], l[b][k], List.getElem?_eq_getElem h, List.getElem?_eq_getElem hk, hm⟩, hn⟩
  · refine .inr ⟨rfl, b', k', hy, hz, ?_, hh, hn⟩
    rcases hb with hb | ⟨rfl, hb⟩
    · exact .inl hb
    · exact .inr ⟨rfl, by omega⟩
theorem CodeAt.mono {B B' : Nat} {w : World} {s : Value} {l : List Ins} (h : CodeAt B w s l) (hB : B ≤ B') : CodeAt B' w s l := by
  obtain ⟨p, cap, h1, h2, h3, h4⟩ := h
  refine ⟨p, cap, h1, h2, h3, fun i hi => ?_⟩
  obtain ⟨a, e, ha, hI⟩ := h4 i hi
  exact ⟨a, e, Nat.lt_of_lt_of_le ha hB, hI⟩
theorem BlocksAt.mono {B B' : Nat} {w : World} {s : Value} {l : List (List Ins)} (h : BlocksAt B w s l) (hB : B ≤ B') : BlocksAt B' w s l := by
  obtain ⟨p, cap, h1, h2, h3, h4⟩ := h
  refine ⟨p, cap, h1, h2, h3, fun i hi => ?_⟩
  obtain ⟨a, v, e, ha, hc, hI⟩ := h4 i hi
  exact ⟨a, v, e, Nat.lt_of_lt_of_le ha hB, hc, hI.mono hB⟩
theorem One.newAt {B c : Nat} (w : World) (hB : B ≤ c) (hc : c = w.heap.size) (v : Value) (t : TypeId) : One B c v (w.alloc (.cells #[v] t)) := by subst hc; exact One.new w hB v t
theorem Tri.newAt {B c : Nat} (w : World) (hB : B ≤ c) (hc : c = w.heap.size) (x y z : Value) (t : TypeId) : Tri B c x y z (w.alloc (.cells #[x, y, z] t)) := by subst hc; exact Tri.new w hB x y z t
theorem Tri.below {B B' g : Nat} {x y z : Value} {W w : World} (h : Tri B g x y z W) (hb : Below B' W w) (hg : g < B') : Tri B g x y z w := by
  obtain ⟨h0, h1, h2, h3, h4, h5⟩ := h
  exact ⟨h0, Nat.lt_of_lt_of_le h1 hb.size, (hb.cell (p := ⟨g, 0, none⟩) hg).trans h2, (hb.cell (p := ⟨g, 1, none⟩) hg).trans h3, (hb.cell (p := ⟨g, 2, none⟩) hg).trans h4, fun i => (hb.frozen (p := ⟨g, i, none⟩) hg).trans (h5 i)⟩
/-- How Def ends. -/
def DefEnds (B : Nat) (l : List (List Ins)) (reg : Int) (W : World) (e : Ending) (w' : World) : Prop :=
  ∃ (f : Bool) (y z : Int), DefS l reg l.length 0 f y z ∧ e = .returned (.tuple #[.agg #[.int .i64 0, .int .i64 y, .int .i64 z], .bool f]) ∧ Below B W w'
theorem lawK : Keyed Try.prog 3 := int_keyed Try.underlying3
theorem Past.grown {B m : Nat} {W w w' : World} (h : Past B W w) (g : w.grownBy w' (some m)) (hm : B ≤ m) : Past B W w' := ⟨h.1, h.2.grown g h.size (fun j hj => by cases hj; exact hm)⟩
theorem One.grown {B c m : Nat} {v : Value} {w w' : World} (h : One B c v w) (g : w.grownBy w' (some m)) (hm : c ≠ m) : One B c v w' := by
  obtain ⟨h1, h2, h3, h4⟩ := h
  obtain ⟨_, _, _, hs, hk⟩ := g
  have hb := hk c h2 (fun e => hm (by injection e))
  refine ⟨h1, Nat.lt_of_lt_of_le h2 hs, ?_, ?_⟩
  · unfold World.cell? at h3 ⊢; simp only [hb]; exact h3
  · unfold World.frozen? at h4 ⊢; simp only [hb]; exact h4
theorem grown_cell {m c o : Nat} {w w' : World} (g : w.grownBy w' (some m)) (h : c < w.heap.size) (hm : c ≠ m) : w'.cell? ⟨c, o, none⟩ = w.cell? ⟨c, o, none⟩ := by
  obtain ⟨_, _, _, hs, hk⟩ := g
  have hb := hk c h (fun e => hm (by injection e))
  unfold World.cell?
  simp only [hb]
/-- The registers that operands name; those that an instruction names. -/
def nmA (l : List Arg) : List Int := (l.filter fun v => v.kind == 1).map (·.n)
def nmI (d : Ins) : List Int := d.reg :: nmA d.args
theorem nmA_succ (l : List Arg) (k : Nat) (h : k < l.length) : nmA (l.take (k + 1)) = nmA (l.take k) ++ (if l[k].kind == 1 then [l[k].n] else []) := by
  unfold nmA
  rw [List.take_succ_eq_append_getElem h, List.filter_append, List.map_append]
  cases hu : l[k].kind == 1 <;> simp [hu]
/-- The set of some registers. -/
def S (l : List Int) : DataW Unit := setOf (.agg []) (l.map (Lit.int .i64))
theorem S_snoc (l : List Int) (x : Int) : S (l ++ [x]) = (S l).put (.int .i64 x) (.agg []) := by
  unfold S; rw [List.map_append]; exact setOf_snoc _ _ _
theorem has_S (l : List Int) (x : Int) : Maps.has (S l) (.int .i64 x) = l.contains x := by
  unfold S
  rw [has_setOf _ _ _ (by intro y hy; obtain ⟨z, _, rfl⟩ := List.mem_map.1 hy; trivial)]
  induction l with
  | nil => rfl
  | cons y l ih =>
    rw [List.map_cons, List.any_cons, List.contains_cons, ih]
    congr 1
    rw [Bool.eq_iff_iff]
    simp [Lit.sameKey]
    exact eq_comm
/-- All registers that instructions name. -/
def nmL (l : List Ins) : List Int := l.flatMap nmI
def cnt (l : List Ins) : Nat := l.length + argsNum l
theorem nmL_snoc (l : List Ins) (d : Ins) : nmL (l ++ [d]) = nmL l ++ nmI d := by unfold nmL; rw [List.flatMap_append]; simp
theorem cnt_snoc (l : List Ins) (d : Ins) : cnt (l ++ [d]) = cnt l + 1 + d.args.length := by unfold cnt; rw [argsNum_snoc, List.length_append]; simp; omega
theorem nmL_le (l : List Ins) : (nmL l).length ≤ cnt l := by
  induction l with
  | nil => exact Nat.le_refl _
  | cons d l ih =>
    have h1 : (nmA d.args).length ≤ d.args.length := by unfold nmA; rw [List.length_map]; exact List.length_filter_le _ _
    have e : nmL (d :: l) = nmI d ++ nmL l := rfl
    have e2 : cnt (d :: l) = cnt l + 1 + d.args.length := by unfold cnt argsNum; simp; omega
    rw [e, e2, List.length_append]
    unfold nmI
    simp only [List.length_cons]
    omega
theorem pigeon (L : List Int) (n : Int) (j : Nat) (h : ∀ i : Nat, i < j → L.contains (n + i) = true) : j ≤ L.length := by
  induction j generalizing L with
  | zero => exact Nat.zero_le _
  | succ j ih =>
    have h1 : (n + j) ∈ L := by have := h j (Nat.lt_succ_self j); simpa using this
    have h2 : (L.filter (fun x => x != n + j)).length < L.length := List.length_filter_lt_length_iff_exists.2 ⟨n + j, h1, by simp⟩
    have h3 := ih (L.filter (fun x => x != n + j)) (fun i hi => by
      have h4 : (n + i) ∈ L := by have := h i (Nat.lt_succ_of_lt hi); simpa using this
      have : (n + i) ∈ L.filter (fun x => x != n + j) := List.mem_filter.2 ⟨h4, by simp; omega⟩
      simpa using this)
    omega
theorem ArgsAt.mono {B B' : Nat} {w : World} {d : Ins} (h : ArgsAt B w d) (hB : B ≤ B') : ArgsAt B' w d := by
  obtain ⟨h1, h2, h3, h4⟩ := h
  refine ⟨h1, h2, h3, fun i hi => ?_⟩
  obtain ⟨a, e, ha, hI⟩ := h4 i hi
  exact ⟨a, e, Nat.lt_of_lt_of_le ha hB, hI⟩
/-- How Fresh ends: with the least number from n on that nobody names. -/
def FreshEnds (B : Nat) (n : Nat) (L : List Int) (W : World) (e : Ending) (w' : World) : Prop :=
  ∃ j : Nat, e = .returned (.int .i64 (n + j)) ∧ L.contains ((n : Int) + j) = false ∧ (∀ i : Nat, i < j → L.contains ((n : Int) + i) = true) ∧ Below B W w'
/-- The small function's one instruction. -/
def dI (n : Nat) : Ins := { op := 1, reg := 7, ty := 8, n := 0, fl := 0, ap := some ⟨n + 1, 0, none⟩, al := 2, ac := 2, tp := none, tl := 0, tc := 0, args := [⟨1, 0, 0⟩, ⟨1, 7, 0⟩] }
/-- The small function lies in the blocks from n on. -/
structure LitAt (n : Nat) (w : World) : Prop where
  size : n + 5 ≤ w.heap.size
  a0 : w.cell? ⟨n + 1, 0, none⟩ = some (.int .i64 1)
  a1 : w.cell? ⟨n + 1, 1, none⟩ = some (.int .i64 0)
  a2 : w.cell? ⟨n + 1, 2, none⟩ = some (.int .u64 0)
  a3 : w.cell? ⟨n + 1, 3, none⟩ = some (.int .i64 1)
  a4 : w.cell? ⟨n + 1, 4, none⟩ = some (.int .i64 7)
  a5 : w.cell? ⟨n + 1, 5, none⟩ = some (.int .u64 0)
  i0 : w.cell? ⟨n + 2, 0, none⟩ = some (.int .i64 1)
  i1 : w.cell? ⟨n + 2, 1, none⟩ = some (.int .i64 7)
  i2 : w.cell? ⟨n + 2, 2, none⟩ = some (.int .i64 8)
  i3 : w.cell? ⟨n + 2, 3, none⟩ = some (.int .i64 0)
  i4 : w.cell? ⟨n + 2, 4, none⟩ = some (.int .i64 0)
  i5 : w.cell? ⟨n + 2, 5, none⟩ = some (.slice (some ⟨n + 1, 0, none⟩) 2 2)
  i6 : w.cell? ⟨n + 2, 6, none⟩ = some (.slice none 0 0)
  b0 : w.cell? ⟨n + 3, 0, none⟩ = some (.slice (some ⟨n + 2, 0, none⟩) 1 1)
  f0 : w.cell? ⟨n + 4, 0, none⟩ = some (.string { data := #[] })
  f1 : w.cell? ⟨n + 4, 1, none⟩ = some (.slice (some ⟨n, 0, none⟩) 2 2)
  f2 : w.cell? ⟨n + 4, 2, none⟩ = some (.int .i64 8)
  f3 : w.cell? ⟨n + 4, 3, none⟩ = some (.slice (some ⟨n + 3, 0, none⟩) 1 1)
theorem LitAt.below {n : Nat} {w w' : World} (h : LitAt n w) (hb : Below w.heap.size w w') : LitAt n w' := by
  have hs := h.size
  have k : ∀ b o, b < n + 5 → w'.cell? ⟨b, o, none⟩ = w.cell? ⟨b, o, none⟩ := fun b o hlt => hb.cell (p := ⟨b, o, none⟩) (show b < w.heap.size by omega)
  exact ⟨Nat.le_trans hs hb.size, (k _ _ (by omega)).trans h.a0, (k _ _ (by omega)).trans h.a1, (k _ _ (by omega)).trans h.a2, (k _ _ (by omega)).trans h.a3, (k _ _ (by omega)).trans h.a4, (k _ _ (by omega)).trans h.a5,
    (k _ _ (by omega)).trans h.i0, (k _ _ (by omega)).trans h.i1, (k _ _ (by omega)).trans h.i2, (k _ _ (by omega)).trans h.i3, (k _ _ (by omega)).trans h.i4, (k _ _ (by omega)).trans h.i5, (k _ _ (by omega)).trans h.i6, (k _ _ (by omega)).trans h.b0, (k _ _ (by omega)).trans h.f0, (k _ _ (by omega)).trans h.f1, (k _ _ (by omega)).trans h.f2, (k _ _ (by omega)).trans h.f3⟩
theorem LitAt.blocks {n : Nat} {w : World} (h : LitAt n w) : BlocksAt w.heap.size w (.slice (some ⟨n + 3, 0, none⟩) 1 1) [[dI n]] := by
  have hs := h.size
  refine ⟨some ⟨n + 3, 0, none⟩, 1, rfl, Nat.le_refl _, by decide, fun i hi => ?_⟩
  obtain rfl : i = 0 := by simp at hi; omega
  refine ⟨⟨n + 3, 0, none⟩, .slice (some ⟨n + 2, 0, none⟩) 1 1, rfl, show n + 3 < w.heap.size by omega, h.b0, ?_⟩
  refine ⟨some ⟨n + 2, 0, none⟩, 1, rfl, Nat.le_refl _, by decide, fun k hk => ?_⟩
  obtain rfl : k = 0 := by simp at hk; omega
  exact ⟨⟨n + 2, 0, none⟩, rfl, show n + 2 < w.heap.size by omega, h.i0, h.i1, h.i2, h.i3, h.i4, h.i5, h.i6⟩
theorem LitAt.args {n : Nat} {w : World} (h : LitAt n w) : AllArgs w.heap.size w [[dI n]] := by
  have hs := h.size
  intro b hb k hk
  obtain rfl : b = 0 := by simp at hb; omega
  obtain rfl : k = 0 := by simp at hk; omega
  refine ⟨rfl, Nat.le_refl _, (by show 2 ≤ maxLen; decide), fun i hi => ⟨⟨n + 1, 0, none⟩, rfl, show n + 1 < w.heap.size by omega, ?_⟩⟩
  have : i = 0 ∨ i = 1 := by simp [dI] at hi; omega
  rcases this with rfl | rfl
  · exact ⟨h.a0, h.a1, h.a2⟩
  · exact ⟨h.a3, h.a4, h.a5⟩
def fV (n : Nat) : Value := .agg #[.string { data := #[] }, .slice (some ⟨n, 0, none⟩) 2 2, .int .i64 8, .slice (some ⟨n + 3, 0, none⟩) 1 1]
theorem cellsInt : Try.prog.cellsOf 3 = 1 := by kernel_rfl
theorem cellsU64 : Try.prog.cellsOf 27 = 1 := by kernel_rfl
theorem cellsValue : Try.prog.cellsOf 29 = 3 := by kernel_rfl
theorem cellsInstr : Try.prog.cellsOf 25 = 7 := by kernel_rfl
theorem cellsVals : Try.prog.cellsOf 22 = 1 := by kernel_rfl
theorem cellsInts : Try.prog.cellsOf 23 = 1 := by kernel_rfl
theorem cellsString : Try.prog.cellsOf 9 = 1 := by kernel_rfl
theorem block_lt {w : World} {a : Addr} {v : Value} (h : w.cell? a = some v) : a.block < w.heap.size := by
  by_cases hl : a.block < w.heap.size
  · exact hl
  · unfold World.cell? at h
    rw [Array.getElem?_eq_none (by omega)] at h
    cases h
theorem add_pos (x : Addr) (j : Nat) (hj : j ≠ 0) : x.add j = ⟨x.block, x.off + j, none⟩ := by unfold Addr.add; rw [if_neg hj]
theorem add_zero (x : Addr) : x.add 0 = x := by unfold Addr.add; rw [if_pos rfl]
instance : Inhabited Arg := ⟨⟨0, 0, 0⟩⟩
instance : Inhabited Ins := ⟨⟨0, 0, 0, 0, 0, none, 0, 0, none, 0, 0, []⟩⟩
theorem bulk_pos {H : Type} (d : DataW H) : 1 ≤ Rows.uptoBulk d := by
  cases d
  case lit l => cases l <;> simp [Rows.uptoBulk]
  all_goals simp [Rows.uptoBulk]
theorem bulk_app {H : Type} (l r : List (DataW H)) : Rows.uptoBulkAll (l ++ r) = Rows.uptoBulkAll l + Rows.uptoBulkAll r := by
  induction l with
  | nil => simp [Rows.uptoBulkAll]
  | cons x l ih => simp only [List.cons_append, Rows.uptoBulkAll, ih]; omega
theorem bulk_sum {H : Type} (D : Nat → DataW H) (g : Nat → Nat) : ∀ n : Nat, (∀ i, i < n → g i ≤ Rows.uptoBulk (D i)) → ((List.range n).map g).sum ≤ Rows.uptoBulkAll ((List.range n).map D)
  | 0, _ => Nat.zero_le _
  | n + 1, h => by
    have ih := bulk_sum D g n (fun i hi => h i (by omega))
    have hn := h n (by omega)
    rw [List.range_succ, List.map_append, List.map_append, bulk_app, List.sum_append]
    simp [Rows.uptoBulkAll]
    omega
theorem sum_ones : ∀ n : Nat, ((List.range n).map (fun _ => (1 : Nat))).sum = n
  | 0 => rfl
  | n + 1 => by rw [List.range_succ, List.map_append, List.sum_append, sum_ones n]; rfl
theorem bulk_slice {H : Type} (e s : List (DataW H)) : Rows.uptoBulkAll e ≤ Rows.uptoBulk (.slice e s) := by simp only [Rows.uptoBulk]; omega
section
variable {H : Type} {enc : TypeId × Value → H} {W : World} {sp : Nat → Bool} {held : Bool}
theorem tr_int {n : Nat} {c : Value} {y : DataW H × List MemPlace} (h : DataW.trod enc Try.prog W 0 sp held n 3 [c] = some y) : ∃ k : Int, c = .int .i64 k ∧ (Lit.int .i64 k).wf = true := by
  obtain ⟨k, h1, _, h2⟩ := DataW.trod_int Try.underlying3 h
  exact ⟨k, (List.cons.inj h1).1, h2⟩
theorem tr_u64 {n : Nat} {c : Value} {y : DataW H × List MemPlace} (h : DataW.trod enc Try.prog W 0 sp held n 27 [c] = some y) : ∃ k : Int, c = .int .u64 k := by
  obtain ⟨k, h1, _, _⟩ := DataW.trod_int Try.underlying27 h
  exact ⟨k, (List.cons.inj h1).1⟩
set_option maxRecDepth 100000 in
theorem open_arg {n : Nat} {a : Addr} {i : Nat} {cs : List Value} {y : DataW H × List MemPlace} (h1 : W.cells? 0 (a.add (i * 3)) 3 = some cs) (h2 : DataW.trod enc Try.prog W 0 sp held n 29 cs = some y) :
    ∃ v : Arg, ArgAt W (a.add (i * 3)) v ∧ (Lit.int .i64 v.n).wf = true := by
  obtain ⟨_, hlen, hcell⟩ := World.cells?_some h1
  obtain ⟨xs, k, _, _, _, hxl, hg⟩ := DataW.trod_struct Try.underlying29 h2
  have c3 := cellsInt
  have c22 := cellsU64
  match cs, hlen with
  | [v0, v1, v2], _ =>
    match xs, hxl with
    | [y0, y1, y2], _ =>
      have g0 := hg 0 _ rfl
      have g1 := hg 1 _ rfl
      have g2 := hg 2 _ rfl
      simp [c3, c22] at g0 g1 g2
      obtain ⟨k0, rfl, _⟩ := tr_int g0
      obtain ⟨k1, rfl, w1⟩ := tr_int g1
      obtain ⟨k2, rfl⟩ := tr_u64 g2
      refine ⟨⟨k0, k1, k2⟩, ⟨?_, ?_, ?_⟩, w1⟩
      · have := hcell 0 (by decide); rw [add_zero] at this; exact this
      · have := hcell 1 (by decide); rw [add_pos _ 1 (by decide)] at this; exact this
      · have := hcell 2 (by decide); rw [add_pos _ 2 (by decide)] at this; exact this
theorem open_args {n : Nat} {c : Value} {y : DataW H × List MemPlace} (h : DataW.trod enc Try.prog W 0 sp held n 22 [c] = some y) :
    ∃ (ap : Option Addr) (ac : Nat) (args : List Arg), c = .slice ap args.length ac ∧ args.length ≤ ac ∧ ac ≤ maxLen ∧ (∀ i (h : i < args.length), ∃ a, ap = some a ∧ a.block < W.heap.size ∧ ArgAt W (a.add (i * 3)) args[i]) ∧
      (∀ i (h : i < args.length), (Lit.int .i64 args[i].n).wf = true) ∧ args.length ≤ Rows.uptoBulk y.1 := by
  rcases open_slice Try.underlying22 h with ⟨hc, hx⟩ | ⟨a, len, cap, m, n', D, Pl, hc, hb, hl, hm, hmm, hx, hi⟩
  · exact ⟨none, 0, [], (List.cons.inj hc).1, Nat.le_refl _, Nat.zero_le _, fun i h => absurd h (Nat.not_lt_zero i), fun i h => absurd h (Nat.not_lt_zero i), Nat.zero_le _⟩
  · have lm : len ≤ m := by rw [hmm]; split <;> omega
    rw [cellsValue] at hi
    obtain ⟨f, hf⟩ := choose_lt (α := Arg) (p := fun i v => ArgAt W (a.add (i * 3)) v ∧ (Lit.int .i64 v.n).wf = true) (n := len) (fun i hi2 => by
      obtain ⟨cs', h1, h2⟩ := hi i (by omega)
      exact open_arg h1 h2)
    refine ⟨some a, cap, (List.range len).map f, by simp [(List.cons.inj hc).1], by simpa using hl, hm, fun i h => ?_, fun i h => ?_, ?_⟩
    · have hi2 : i < len := by simpa using h
      refine ⟨a, rfl, ?_, ?_⟩
      · have := block_lt (hf i hi2).1.1; rwa [add_block] at this
      · simpa using (hf i hi2).1
    · have hi2 : i < len := by simpa using h
      simpa using (hf i hi2).2
    · subst hx
      have h1 := bulk_sum D (fun _ => 1) len (fun i _ => bulk_pos _)
      have h2 := bulk_slice ((List.range len).map D) ((List.range (m - len)).map fun j => D (len + j))
      have e := sum_ones len
      simp only [List.length_map, List.length_range]
      omega
/-- What an instruction's reading gives. -/
def InsOk (W : World) (d : Ins) : Prop := ArgsAt W.heap.size W d ∧ (Lit.int .i64 d.reg).wf = true ∧ ∀ i (h : i < d.args.length), (Lit.int .i64 d.args[i].n).wf = true
set_option maxRecDepth 100000 in
theorem open_ins {n : Nat} {a : Addr} {i : Nat} {cs : List Value} {y : DataW H × List MemPlace} (h1 : W.cells? 0 (a.add (i * 7)) 7 = some cs) (h2 : DataW.trod enc Try.prog W 0 sp held n 25 cs = some y) :
    ∃ d : Ins, InsAt W (a.add (i * 7)) d ∧ InsOk W d ∧ 1 + d.args.length ≤ Rows.uptoBulk y.1 := by
  obtain ⟨_, hlen, hcell⟩ := World.cells?_some h1
  obtain ⟨xs, k, _, hx, _, hxl, hg⟩ := DataW.trod_struct Try.underlying25 h2
  have c3 := cellsInt
  have c22 := cellsVals
  have c23 := cellsInts
  match cs, hlen with
  | [v0, v1, v2, v3, v4, v5, v6], _ =>
    match xs, hxl with
    | [y0, y1, y2, y3, y4, y5, y6], _ =>
      have g0 := hg 0 _ rfl
      have g1 := hg 1 _ rfl
      have g2 := hg 2 _ rfl
      have g3 := hg 3 _ rfl
      have g4 := hg 4 _ rfl
      have g5 := hg 5 _ rfl
      have g6 := hg 6 _ rfl
      simp [c3, c22, c23] at g0 g1 g2 g3 g4 g5 g6
      obtain ⟨k0, rfl, _⟩ := tr_int g0
      obtain ⟨k1, rfl, w1⟩ := tr_int g1
      obtain ⟨k2, rfl, _⟩ := tr_int g2
      obtain ⟨k3, rfl, _⟩ := tr_int g3
      obtain ⟨k4, rfl, _⟩ := tr_int g4
      obtain ⟨ap, ac, args, rfl, a1, a2, a3, a4, a5⟩ := open_args g5
      obtain ⟨tp, tl, tc, rfl⟩ : ∃ (p : Option Addr) (l k : Nat), v6 = .slice p l k := by
        rcases open_slice Try.underlying23 g6 with ⟨h0, _⟩ | ⟨a, len, cap, _, _, _, _, h0, _⟩
        · exact ⟨none, 0, 0, (List.cons.inj h0).1⟩
        · exact ⟨some a, len, cap, (List.cons.inj h0).1⟩
      refine ⟨⟨k0, k1, k2, k3, k4, ap, args.length, ac, tp, tl, tc, args⟩, ⟨?_, ?_, ?_, ?_, ?_, ?_, ?_⟩, ⟨⟨rfl, a1, a2, a3⟩, w1, a4⟩, ?_⟩
      · have := hcell 0 (by decide); rw [add_zero] at this; exact this
      · have := hcell 1 (by decide); rw [add_pos _ 1 (by decide)] at this; exact this
      · have := hcell 2 (by decide); rw [add_pos _ 2 (by decide)] at this; exact this
      · have := hcell 3 (by decide); rw [add_pos _ 3 (by decide)] at this; exact this
      · have := hcell 4 (by decide); rw [add_pos _ 4 (by decide)] at this; exact this
      · have := hcell 5 (by decide); rw [add_pos _ 5 (by decide)] at this; exact this
      · have := hcell 6 (by decide); rw [add_pos _ 6 (by decide)] at this; exact this
      · rw [hx]
        simp only [List.map_cons, List.map_nil, Rows.uptoBulk, Rows.uptoBulkAll]
        show 1 + args.length ≤ _
        omega
theorem cnt_map (f : Nat → Ins) : ∀ n : Nat, cnt ((List.range n).map f) = ((List.range n).map fun i => 1 + (f i).args.length).sum
  | 0 => rfl
  | n + 1 => by rw [List.range_succ, List.map_append, List.map_append, List.sum_append, ← cnt_map f n, List.map_singleton, cnt_snoc]; simp; omega
theorem cnt_app (l m : List Ins) : cnt (l ++ m) = cnt l + cnt m := by unfold cnt; rw [argsNum_app, List.length_append]; omega
theorem cnt_flat (f : Nat → List Ins) : ∀ n : Nat, cnt ((List.range n).map f).flatten = ((List.range n).map fun i => cnt (f i)).sum
  | 0 => rfl
  | n + 1 => by rw [List.range_succ, List.map_append, List.map_append, List.sum_append, List.flatten_append, cnt_app, cnt_flat f n]; simp
/-- What an argument's reading as a function gives. -/
structure FuncOk (W : World) (s0 : ByteArray) (p1 : Option Addr) (n1 c1 : Nat) (rt : Int) (p2 : Option Addr) (n2 c2 : Nat) (l : List (List Ins)) : Prop where
  blocks : BlocksAt W.heap.size W (.slice p2 n2 c2) l
  ins : ∀ b (h : b < l.length) k (hk : k < l[b].length), InsOk W l[b][k]
theorem FuncOk.args {W : World} {s0 : ByteArray} {p1 : Option Addr} {n1 c1 : Nat} {rt : Int} {p2 : Option Addr} {n2 c2 : Nat} {l : List (List Ins)} (h : FuncOk W s0 p1 n1 c1 rt p2 n2 c2 l) : AllArgs W.heap.size W l := fun b hb k hk => (h.ins b hb k hk).1
end
/-- Some bool, and nothing that was there has changed. -/
def SomeBool (W : World) (e : Ending) (w' : World) : Prop := ∃ b : Bool, e = .returned (.bool b) ∧ Below W.heap.size W w'
theorem free_mem {l : List Ins} {r : Int} (h : (nmL l).contains r = false) {d : Ins} (hd : d ∈ l) : ¬ d.reg = r ∧ ∀ v ∈ d.args, isU r v = false := by
  have hn : r ∉ nmL l := by intro hm; rw [List.contains_iff_mem.2 hm] at h; cases h
  have hI : ∀ x ∈ nmI d, x ∈ nmL l := fun x hx => List.mem_flatMap.2 ⟨d, hd, hx⟩
  refine ⟨fun e => hn (hI r (by rw [← e]; exact List.mem_cons_self)), fun v hv => ?_⟩
  cases hu : isU r v
  · rfl
  · unfold isU at hu
    simp only [Bool.and_eq_true, beq_iff_eq] at hu
    refine absurd (hI r (List.mem_cons_of_mem _ ?_)) hn
    unfold nmA
    exact List.mem_map.2 ⟨v, List.mem_filter.2 ⟨hv, by simpa using hu.1⟩, hu.2⟩
theorem free_uses {l : List Ins} {r : Int} (h : (nmL l).contains r = false) : usesOf r l = 0 := by
  unfold usesOf
  have : ∀ d ∈ l, usesIn r d.args = 0 := fun d hd => by
    unfold usesIn
    rw [List.length_eq_zero_iff, List.filter_eq_nil_iff]
    intro v hv
    rw [(free_mem h hd).2 v hv]
    decide
  clear h
  induction l with
  | nil => rfl
  | cons d l ih =>
    rw [List.map_cons, List.sum_cons, this d List.mem_cons_self, ih (fun x hx => this x (List.mem_cons_of_mem _ hx))]
theorem free_def {l : List (List Ins)} {r : Int} (h : (nmL l.flatten).contains r = false) {f : Bool} {y z : Int} (hd : DefS l r l.length 0 f y z) : f = false ∧ y = 0 ∧ z = 0 := by
  rcases hd with ⟨h1, h2, h3, _⟩ | ⟨_, b, k, _, _, _, ⟨c, d, e1, e2, e3⟩, _⟩
  · exact ⟨h1, h2, h3⟩
  · have hm : d ∈ l.flatten := List.mem_flatten.2 ⟨c, List.mem_of_getElem? e1, List.mem_of_getElem? e2⟩
    unfold mk at e3
    simp only [Bool.and_eq_true, beq_iff_eq] at e3
    exact absurd e3.1 (free_mem h hm).1
theorem infoI : (Try.prog.info? 25).map (fun i => (i.zero, i.size, i.bytes)) = some (some (.agg #[.int .i64 0, .int .i64 0, .int .i64 0, .int .i64 0, .int .i64 0, .slice none 0 0, .slice none 0 0]), 7, 88) := by kernel_rfl
/-- An instruction's seven cells, a place's three. -/
def insC (d : Ins) : List Value := [.int .i64 d.op, .int .i64 d.reg, .int .i64 d.ty, .int .i64 d.n, .int .i64 d.fl, .slice d.ap d.al d.ac, .slice d.tp d.tl d.tc]
def plC (b k : Nat) : List Value := [.int .i64 0, .int .i64 b, .int .i64 k]
/-- The places ahead of place (b, k), as cells. -/
def placesC (l : List (List Ins)) (b k : Nat) : List Value := (List.range b).flatMap (fun i => (List.range (l.getD i []).length).flatMap (plC i)) ++ (List.range k).flatMap (plC b)
theorem placesC_next (l : List (List Ins)) (b : Nat) (h : b < l.length) : placesC l (b + 1) 0 = placesC l b l[b].length := by
  unfold placesC
  rw [List.range_succ, List.flatMap_append]
  simp [List.getD_eq_getElem?_getD, h]
theorem placesC_succ (l : List (List Ins)) (b k : Nat) : placesC l b (k + 1) = placesC l b k ++ plC b k := by
  unfold placesC
  rw [List.range_succ, List.flatMap_append, List.append_assoc]
  simp
theorem insC_snoc (l : List Ins) (d : Ins) : (l ++ [d]).flatMap insC = l.flatMap insC ++ insC d := by rw [List.flatMap_append]; simp
/-- Two rows of different types lie apart. -/
theorem rows_apart {w : World} {B e e' s s' n n' : Nat} {v v' : Value} {xs xs' : List Value} (h : w.ownsRow B e s v n xs) (h' : w.ownsRow B e' s' v' n' xs') (he : e ≠ e') : v.ownBlock = none ∨ v.ownBlock ≠ v'.ownBlock := by
  rcases h.2 with ⟨rfl, _⟩ | ⟨g, cap, cur, rfl, _, h1, _⟩
  · exact .inl rfl
  · rcases h'.2 with ⟨rfl, _⟩ | ⟨g', cap', cur', rfl, _, h2, _⟩
    · exact .inr (by simp [Value.ownBlock])
    · refine .inr fun e => ?_
      have : g = g' := by simpa [Value.ownBlock] using e
      subst this
      rw [h1] at h2
      exact he (by injection h2 with h3; injection h3)
theorem lit_cells (w : World) (cs : Array Value) (ty : TypeId) : ∀ (j : Nat) (u : Value), cs.toList[j]? = some u → (w.alloc (.cells cs ty)).cell? ((⟨w.heap.size, 0, none⟩ : Addr).add j) = some u := by
  intro j u h
  have e : (⟨w.heap.size, 0, none⟩ : Addr).add j = ⟨w.heap.size, j, none⟩ := by
    unfold Addr.add
    by_cases hj : j = 0
    · subst hj; rfl
    · rw [if_neg hj]; simp
  rw [e, World.cell?_alloc_at _ _ _ _ rfl]
  simpa using h
theorem insC_one (d : Ins) : ∀ u ∈ insC d, u.oneCell' = true := by intro u hu; unfold insC at hu; simp at hu; rcases hu with rfl | rfl | rfl | rfl | rfl | rfl | rfl <;> rfl
theorem plC_one (b k : Nat) : ∀ u ∈ plC b k, u.oneCell' = true := by intro u hu; unfold plC at hu; simp at hu; rcases hu with rfl | rfl | rfl <;> rfl
theorem Past.grownRow {B : Nat} {row : Option Nat} {W w w' : World} (h : Past B W w) (g : w.grownBy w' row) (hr : ∀ j, row = some j → B ≤ j) : Past B W w' := ⟨h.1, h.2.grown g h.size hr⟩
theorem add0 (g j : Nat) : (⟨g, 0, none⟩ : Addr).add j = ⟨g, j, none⟩ := by
  unfold Addr.add
  by_cases hj : j = 0
  · subst hj; rfl
  · rw [if_neg hj]; simp
theorem flat_get {α : Type} (f : α → List Value) (m : Nat) (hf : ∀ x, (f x).length = m) (L : List α) : ∀ (i : Nat) (h : i < L.length) (j : Nat), j < m → (L.flatMap f)[i * m + j]? = (f L[i])[j]? := by
  induction L with
  | nil => intro i h; exact absurd h (Nat.not_lt_zero _)
  | cons x L ih =>
    intro i h j hj
    rw [List.flatMap_cons]
    cases i with
    | zero => rw [List.getElem?_append_left (by rw [hf]; omega)]; simp
    | succ i =>
      have e : (i + 1) * m + j = m + (i * m + j) := by rw [Nat.add_mul]; omega
      rw [List.getElem?_append_right (by rw [hf]; omega), hf, e, Nat.add_sub_cancel_left]
      exact ih i (by simpa using h) j hj
/-- The row of instructions is a list of instructions in memory. -/
theorem codeAt_own {w : World} {B : Nat} {vl : Value} {L : List Ins} (h : w.ownsRow B 25 7 vl L.length (L.flatMap insC)) : CodeAt w.heap.size w vl L := by
  rcases id h.2 with ⟨rfl, h0⟩ | ⟨g, cap, cur, rfl, hg, hh, h1, h2, _, _⟩
  · refine ⟨none, 0, by rw [h0], by omega, by decide, fun i hi => ?_⟩
    omega
  · refine ⟨some ⟨g, 0, none⟩, cap, rfl, h1, h2, fun i hi => ⟨⟨g, 0, none⟩, rfl, (Array.getElem?_eq_some_iff.1 hh).1, ?_⟩⟩
    have c : ∀ j, j < 7 → w.cell? ⟨g, i * 7 + j, none⟩ = (insC L[i])[j]? := fun j hj => by
      rw [h.cellAt (i * 7 + j) (by omega)]
      exact flat_get insC 7 (fun _ => rfl) L i hi j hj
    rw [add0]
    exact ⟨c 0 (by decide), c 1 (by decide), c 2 (by decide), c 3 (by decide), c 4 (by decide), c 5 (by decide), c 6 (by decide)⟩
/-- All places, in order. -/
def places (l : List (List Ins)) : List (Nat × Nat) := (List.range l.length).flatMap fun i => (List.range (l.getD i []).length).map fun k => (i, k)
theorem placesC_eq (l : List (List Ins)) : placesC l l.length 0 = (places l).flatMap fun q => plC q.1 q.2 := by
  unfold placesC places
  rw [List.flatMap_assoc]
  simp only [List.range_zero, List.flatMap_nil, List.append_nil]
  congr 1
  funext i
  rw [List.flatMap_map]
def PlAt (B : Nat) (w : World) (s : Value) (l : List (Nat × Nat)) : Prop :=
  ∃ (p : Option Addr) (cap : Nat), s = .slice p l.length cap ∧ ∀ i (h : i < l.length), ∃ a, p = some a ∧ a.block < B ∧ w.cell? (a.add (i * 3)) = some (.int .i64 0) ∧ w.cell? ⟨(a.add (i * 3)).block, (a.add (i * 3)).off + 1, none⟩ = some (.int .i64 l[i].1) ∧ w.cell? ⟨(a.add (i * 3)).block, (a.add (i * 3)).off + 2, none⟩ = some (.int .i64 l[i].2)
theorem AllArgs.flat {B : Nat} {W : World} {l : List (List Ins)} (h : AllArgs B W l) : ∀ i (hi : i < l.flatten.length), ArgsAt B W l.flatten[i] := fun i hi => by
  obtain ⟨c, hc, hd⟩ := List.mem_flatten.1 (List.getElem_mem hi)
  obtain ⟨b, hb, e1⟩ := List.mem_iff_getElem.1 hc
  obtain ⟨k, hk, e2⟩ := List.mem_iff_getElem.1 hd
  subst e1
  rw [← e2]
  exact h b hb k hk
theorem codeAt_flat {w : World} {B : Nat} {vl : Value} {l : List (List Ins)} {L : List Ins} (e : l.flatten = L) (h : w.ownsRow B 25 7 vl l.flatten.length (l.flatten.flatMap insC)) : CodeAt w.heap.size w vl L := by
  subst e; exact codeAt_own h
theorem AllArgs.flatL {B : Nat} {W : World} {l : List (List Ins)} {L : List Ins} (e : l.flatten = L) (h : AllArgs B W l) : ∀ i (hi : i < L.length), ArgsAt B W L[i] := by
  subst e; exact h.flat
theorem usesOf_cons (r : Int) (L : List Ins) (i : Nat) (h : i < L.length) : usesOf r (L.take (i + 1)) = usesOf r (L.take i) + usesIn r L[i].args := by rw [List.take_succ_eq_append_getElem h, usesOf_snoc]
theorem argsNum_cons (L : List Ins) (i : Nat) (h : i < L.length) : argsNum (L.take i) + L[i].args.length ≤ argsNum L := by
  have e : L = L.take i ++ ([L[i]] ++ L.drop (i + 1)) := by rw [List.singleton_append, List.getElem_cons_drop, List.take_append_drop]
  have e2 := congrArg argsNum e
  rw [argsNum_app, argsNum_app] at e2
  have e3 : argsNum [L[i]] = L[i].args.length := by simp [argsNum]
  omega
theorem takeF_mono (l : List (List Ins)) {a b : Nat} (h : a ≤ b) : ((l.take a).flatten).length ≤ ((l.take b).flatten).length := by
  have e : l.take b = l.take a ++ (l.take b).drop a := by
    have h1 : (l.take b).take a = l.take a := by rw [List.take_take, Nat.min_eq_left h]
    calc l.take b = (l.take b).take a ++ (l.take b).drop a := (List.take_append_drop _ _).symm
      _ = _ := by rw [h1]
  rw [e, List.flatten_append, List.length_append]
  omega
theorem ahead_len (l : List (List Ins)) (b k : Nat) (h : b < l.length) (hk : k ≤ l[b].length) : (ahead l b k).length = ((l.take b).flatten).length + k := by
  unfold ahead
  have e : l.getD b [] = l[b] := by simp [List.getD_eq_getElem?_getD, h]
  rw [e, List.length_append, List.length_take, Nat.min_eq_left hk]
theorem takeF_succ (l : List (List Ins)) (b : Nat) (h : b < l.length) : ((l.take (b + 1)).flatten).length = ((l.take b).flatten).length + l[b].length := by
  rw [List.take_succ_eq_append_getElem h, List.flatten_append, List.length_append]; simp
theorem before_lt {l : List (List Ins)} {b k b2 k2 : Nat} (h : b < l.length) (hk : k < l[b].length) (h2 : b2 < l.length) (hk2 : k2 < l[b2].length) (hb : before b2 k2 b k) : (ahead l b2 k2).length < (ahead l b k).length := by
  rw [ahead_len l b k h (Nat.le_of_lt hk), ahead_len l b2 k2 h2 (Nat.le_of_lt hk2)]
  rcases hb with hb | ⟨rfl, hb⟩
  · have h3 := takeF_mono l (show b2 + 1 ≤ b by omega)
    rw [takeF_succ l b2 h2] at h3
    omega
  · omega
theorem flatten_at {l : List (List Ins)} {b k : Nat} (h : b < l.length) (hk : k < l[b].length) : l.flatten[(ahead l b k).length]? = some l[b][k] := by
  obtain ⟨m, hm⟩ := ahead_split l b k h hk
  rw [hm, List.getElem?_append_right (Nat.le_refl _), Nat.sub_self]
  rfl
theorem place_of (l : List (List Ins)) : ∀ i, i < l.flatten.length → ∃ (b k : Nat) (h : b < l.length) (hk : k < l[b].length), (ahead l b k).length = i := by
  have key : ∀ b, b ≤ l.length → ∀ i, i < ((l.take b).flatten).length → ∃ (b k : Nat) (h : b < l.length) (hk : k < l[b].length), (ahead l b k).length = i := by
    intro b
    induction b with
    | zero => intro _ i hi; simp at hi
    | succ b ih =>
      intro hb i hi
      by_cases hi2 : i < ((l.take b).flatten).length
      · exact ih (by omega) i hi2
      · rw [takeF_succ l b hb] at hi
        exact ⟨b, i - ((l.take b).flatten).length, hb, by omega, by rw [ahead_len l b _ hb (by omega)]; omega⟩
  intro i hi
  exact key l.length (Nat.le_refl _) i (by rw [List.take_length]; exact hi)
theorem ahead_len0 (l : List (List Ins)) (b k : Nat) (h : b < l.length) (hk : k ≤ l[b].length) : (((List.range b).flatMap fun i => (List.range (l.getD i []).length).map fun k => (i, k)) ++ (List.range k).map fun k => (b, k)).length = (ahead l b k).length := by
  rw [ahead_len l b k h hk]
  have : ∀ b, b ≤ l.length → ((List.range b).flatMap fun i => (List.range (l.getD i []).length).map fun k => (i, k)).length = ((l.take b).flatten).length := by
    intro b
    induction b with
    | zero => intro _; simp
    | succ b ih =>
      intro hb
      rw [List.range_succ, List.flatMap_append, List.length_append, ih (by omega), takeF_succ l b hb]
      have hb2 : b < l.length := hb
      simp [List.getD_eq_getElem?_getD, hb2]
  rw [List.length_append, this b (by omega)]
  simp
theorem range_split {n b : Nat} (h : b < n) : List.range n = List.range b ++ ([b] ++ List.range' (b + 1) (n - b - 1)) := by
  have e : List.range' 0 b ++ List.range' (0 + b) (n - b) = List.range' 0 (b + (n - b)) := by
    first | exact List.range'_append_1 | (rw [List.range'_append_1]; congr 1; omega)
  obtain ⟨c, hc⟩ : ∃ c, n - b = c + 1 := ⟨n - b - 1, by omega⟩
  have h2 : b + (n - b) = n := by omega
  have h3 : n - b - 1 = c := by omega
  rw [h2, hc, List.range'_succ, Nat.zero_add] at e
  rw [List.range_eq_range', List.range_eq_range', h3]
  exact e.symm
theorem places_at {l : List (List Ins)} {b k : Nat} (h : b < l.length) (hk : k < l[b].length) : (places l)[(ahead l b k).length]? = some (b, k) := by
  have e1 := range_split h
  have e2 := range_split hk
  have e : l.getD b [] = l[b] := by simp [List.getD_eq_getElem?_getD, h]
  unfold places
  rw [e1, List.flatMap_append, List.flatMap_append, List.flatMap_singleton, e, e2, List.map_append, List.map_append, List.append_assoc, ← List.append_assoc, List.append_assoc, ← List.append_assoc, ← ahead_len0 l b k h (Nat.le_of_lt hk)]
  rw [List.getElem?_append_right (Nat.le_refl _), Nat.sub_self]
  rfl
/-- What is found ahead of an index of the flat list. -/
theorem defS_none {l : List (List Ins)} {r : Int} (h : ∀ i (hi : i < l.flatten.length), mk r l.flatten[i] = false) : DefS l r l.length 0 false 0 0 := by
  refine .inl ⟨rfl, rfl, rfl, fun b' k' _ hh => ?_⟩
  obtain ⟨c, d, e1, e2, e3⟩ := hh
  have hm : d ∈ l.flatten := List.mem_flatten.2 ⟨c, List.mem_of_getElem? e1, List.mem_of_getElem? e2⟩
  obtain ⟨i, hi, rfl⟩ := List.mem_iff_getElem.1 hm
  rw [h i hi] at e3
  cases e3
theorem defS_some {l : List (List Ins)} {r : Int} {i : Nat} (hi : i < l.flatten.length) (hm : mk r l.flatten[i] = true) (hn : ∀ j (hj : j < l.flatten.length), j < i → mk r l.flatten[j] = false) {y z : Nat} (hp : (places l)[i]? = some (y, z)) : DefS l r l.length 0 true y z := by
  obtain ⟨b, k, h, hk, rfl⟩ := place_of l i hi
  rw [places_at h hk] at hp
  obtain ⟨rfl, rfl⟩ : b = y ∧ k = z := by injection hp with hp; injection hp with h1 h2; exact ⟨h1, h2⟩
  have e0 := flatten_at h hk
  rw [List.getElem?_eq_getElem hi] at e0
  have e0 := Option.some.inj e0
  rw [e0] at hm
  refine .inr ⟨rfl, b, k, rfl, rfl, .inl h, ⟨l[b], l[b][k], List.getElem?_eq_getElem h, List.getElem?_eq_getElem hk, hm⟩, fun b2 k2 hb hh => ?_⟩
  obtain ⟨c, d, e1, e2, e3⟩ := hh
  obtain ⟨h2, rfl⟩ := List.getElem?_eq_some_iff.1 e1
  obtain ⟨hk2, rfl⟩ := List.getElem?_eq_some_iff.1 e2
  have hlt := before_lt h hk h2 hk2 hb
  have e4 := flatten_at h2 hk2
  rw [List.getElem?_eq_getElem (by omega)] at e4
  have e4 := Option.some.inj e4
  have := hn _ (by omega) hlt
  rw [e4, e3] at this
  cases this
theorem DefS.unique {l : List (List Ins)} {r : Int} {f f' : Bool} {y z y' z' : Int} (h : DefS l r l.length 0 f y z) (h' : DefS l r l.length 0 f' y' z') : f = f' ∧ y = y' ∧ z = z' := by
  rcases h with ⟨rfl, rfl, rfl, hn⟩ | ⟨rfl, b, k, rfl, rfl, hb, hh, hn⟩ <;> rcases h' with ⟨rfl, rfl, rfl, hn'⟩ | ⟨rfl, b', k', rfl, rfl, hb', hh', hn'⟩
  · exact ⟨rfl, rfl, rfl⟩
  · exact absurd hh' (hn _ _ hb')
  · exact absurd hh (hn' _ _ hb)
  · have h1 : ¬ before b k b' k' := fun h => hn' _ _ h hh
    have h2 : ¬ before b' k' b k := fun h => hn _ _ h hh'
    unfold before at h1 h2
    refine ⟨rfl, ?_, ?_⟩ <;> omega
theorem places_len (l : List (List Ins)) : (places l).length = l.flatten.length := by
  have h : ∀ b, b ≤ l.length → ((List.range b).flatMap fun i => (List.range (l.getD i []).length).map fun k => (i, k)).length = ((l.take b).flatten).length := by
    intro b
    induction b with
    | zero => intro _; simp
    | succ b ih =>
      intro hb
      have hb2 : b < l.length := hb
      rw [List.range_succ, List.flatMap_append, List.length_append, ih (by omega), takeF_succ l b hb]
      simp [List.getD_eq_getElem?_getD, hb2]
  have := h l.length (Nat.le_refl _)
  rw [List.take_length] at this
  exact this
theorem nm_cons (d : Ins) (r : Int) : (nmI d).contains r = (d.reg == r || (nmA d.args).contains r) := by
  unfold nmI
  rw [List.contains_cons]
  congr 1
  rw [Bool.eq_iff_iff]; simp; exact eq_comm
theorem nmA_no (l : List Arg) (r : Int) (h : ∀ k (hk : k < l.length), isU r l[k] = false) : (nmA l).contains r = false := by
  cases hc : (nmA l).contains r
  · rfl
  · have hm := List.contains_iff_mem.1 hc
    unfold nmA at hm
    obtain ⟨v, hv, e⟩ := List.mem_map.1 hm
    obtain ⟨hv1, hv2⟩ := List.mem_filter.1 hv
    obtain ⟨k, hk, rfl⟩ := List.mem_iff_getElem.1 hv1
    have := h k hk
    unfold isU at this
    rw [hv2, e] at this
    simp at this
theorem nmA_yes (l : List Arg) (r : Int) (k : Nat) (hk : k < l.length) (h : isU r l[k] = true) : (nmA l).contains r = true := by
  unfold isU at h
  simp only [Bool.and_eq_true, beq_iff_eq] at h
  refine List.contains_iff_mem.2 ?_
  unfold nmA
  exact List.mem_map.2 ⟨l[k], List.mem_filter.2 ⟨List.getElem_mem hk, by simpa using h.1⟩, h.2⟩
theorem nmL_yes (L : List Ins) (r : Int) (i : Nat) (h : i < L.length) (hd : (nmI L[i]).contains r = true) : (nmL L).contains r = true := by
  refine List.contains_iff_mem.2 ?_
  unfold nmL
  exact List.mem_flatMap.2 ⟨L[i], List.getElem_mem h, List.contains_iff_mem.1 hd⟩
theorem nmL_no (L : List Ins) (r : Int) (h : ∀ i (hi : i < L.length), (nmI L[i]).contains r = false) : (nmL L).contains r = false := by
  cases hc : (nmL L).contains r
  · rfl
  · have hm := List.contains_iff_mem.1 hc
    unfold nmL at hm
    obtain ⟨d, hd, e⟩ := List.mem_flatMap.1 hm
    obtain ⟨i, hi, rfl⟩ := List.mem_iff_getElem.1 hd
    have := h i hi
    rw [List.contains_iff_mem.2 e] at this
    cases this
theorem fresh_unique {n : Nat} {L : List Int} {j j' : Nat} (h1 : L.contains ((n : Int) + j) = false) (h2 : ∀ i : Nat, i < j → L.contains ((n : Int) + i) = true) (h1' : L.contains ((n : Int) + j') = false) (h2' : ∀ i : Nat, i < j' → L.contains ((n : Int) + i) = true) : j = j' := by
  rcases Nat.lt_trichotomy j j' with h | h | h
  · rw [h2' j h] at h1; cases h1
  · exact h
  · rw [h2 j' h] at h1'; cases h1'
theorem fresh_ex (L : List Int) (n : Nat) : ∃ j : Nat, L.contains ((n : Int) + j) = false ∧ ∀ i : Nat, i < j → L.contains ((n : Int) + i) = true := by
  by_cases h : ∃ j : Nat, L.contains ((n : Int) + j) = false ∧ ∀ i : Nat, i < j → L.contains ((n : Int) + i) = true
  · exact h
  · have key : ∀ j : Nat, ∀ i : Nat, i < j → L.contains ((n : Int) + i) = true := by
      intro j
      induction j with
      | zero => intro i hi; exact absurd hi (Nat.not_lt_zero _)
      | succ j ih =>
        intro i hi
        by_cases e : i < j
        · exact ih i e
        · obtain rfl : i = j := by omega
          cases hc : L.contains ((n : Int) + i)
          · exact absurd ⟨i, hc, ih⟩ h
          · rfl
    have := pigeon L n (L.length + 1) (key _)
    omega
theorem below_drew {B : Nat} {W w : World} (h : Below B W w) : Below B W w.drew := ⟨h.os, h.tape, h.output, h.size, h.block⟩
/-- A function's box. -/
structure FBox (g : Nat) (s0 : ByteArray) (p1 : Option Addr) (n1 c1 : Nat) (rt : Int) (p2 : Option Addr) (n2 c2 : Nat) (w : World) : Prop where
  lt : g < w.heap.size
  f0 : w.cell? ⟨g, 0, none⟩ = some (.string s0)
  f1 : w.cell? ⟨g, 1, none⟩ = some (.slice p1 n1 c1)
  f2 : w.cell? ⟨g, 2, none⟩ = some (.int .i64 rt)
  f3 : w.cell? ⟨g, 3, none⟩ = some (.slice p2 n2 c2)
theorem FBox.below {g : Nat} {s0 : ByteArray} {p1 : Option Addr} {n1 c1 : Nat} {rt : Int} {p2 : Option Addr} {n2 c2 : Nat} {W w : World} (h : FBox g s0 p1 n1 c1 rt p2 n2 c2 W) (hb : Below W.heap.size W w) : FBox g s0 p1 n1 c1 rt p2 n2 c2 w :=
  ⟨Nat.lt_of_lt_of_le h.lt hb.size, (hb.cell (p := ⟨g, 0, none⟩) h.lt).trans h.f0, (hb.cell (p := ⟨g, 1, none⟩) h.lt).trans h.f1, (hb.cell (p := ⟨g, 2, none⟩) h.lt).trans h.f2, (hb.cell (p := ⟨g, 3, none⟩) h.lt).trans h.f3⟩
theorem FBox.alloc {g : Nat} {s0 : ByteArray} {p1 : Option Addr} {n1 c1 : Nat} {rt : Int} {p2 : Option Addr} {n2 c2 : Nat} {W : World} (h : FBox g s0 p1 n1 c1 rt p2 n2 c2 W) (o : Obj) : FBox g s0 p1 n1 c1 rt p2 n2 c2 (W.alloc o) :=
  h.below ((Below.refl _ _).alloc (Nat.le_refl _) o)
section
variable {W : World} {s0 : ByteArray} {p1 : Option Addr} {n1 c1 : Nat} {rt : Int} {p2 : Option Addr} {n2 c2 : Nat} {l : List (List Ins)}
end
end Go.Proofs.Ytpjfkmaceaikbaa
