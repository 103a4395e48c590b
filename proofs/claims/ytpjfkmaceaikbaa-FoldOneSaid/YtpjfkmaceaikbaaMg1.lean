/- Several texts in one: BaseA, BitsM, BitsA, BitsB, BitsC. -/
import Derived.Test.YtpjfkmaceaikbaaProg
import Derived.WalkKit
import Derived.Below
import Derived.Lib.Hide
import Derived.Deep.LoopGhost
import Derived.LoopN
import Derived.Maps.OwnSet
import Derived.Test.YtpjfkmaceaikbaaRows
import Derived.OpenShut
import Derived.Deep.Slices
import Derived.Deep.RegionHeld3
import Derived.Deep.DeepCutAuto
import Derived.ProofKit
import Derived.Deep.QuietTactic
import Derived.BigQuiet
namespace Go.Proofs.Ytpjfkmaceaikbaa
open Go.RowKit Go.Maps Go.ChangeShapes Go.WideShapes Go.Deep
set_option linter.unusedVariables false
set_option linter.unusedSimpArgs false

/-- An operand. -/
structure Arg where
  kind : Int
  n : Int
  bits : Int
/-- An instruction: its five numbers, the values of its two lists, and its operands. -/
structure Ins where
  op : Int
  reg : Int
  ty : Int
  n : Int
  fl : Int
  ap : Option Addr
  al : Nat
  ac : Nat
  tp : Option Addr
  tl : Nat
  tc : Nat
  args : List Arg
def Ins.val (d : Ins) : Value := .agg #[.int .i64 d.op, .int .i64 d.reg, .int .i64 d.ty, .int .i64 d.n, .int .i64 d.fl, .slice d.ap d.al d.ac, .slice d.tp d.tl d.tc]
theorem add_block (a : Addr) (n : Nat) : (a.add n).block = a.block := by unfold Addr.add; split <;> rfl
/-- Its seven cells. -/
def InsAt (w : World) (a : Addr) (d : Ins) : Prop :=
  w.cell? a = some (.int .i64 d.op) ∧ w.cell? ⟨a.block, a.off + 1, none⟩ = some (.int .i64 d.reg) ∧ w.cell? ⟨a.block, a.off + 2, none⟩ = some (.int .i64 d.ty) ∧ w.cell? ⟨a.block, a.off + 3, none⟩ = some (.int .i64 d.n) ∧
  w.cell? ⟨a.block, a.off + 4, none⟩ = some (.int .i64 d.fl) ∧ w.cell? ⟨a.block, a.off + 5, none⟩ = some (.slice d.ap d.al d.ac) ∧ w.cell? ⟨a.block, a.off + 6, none⟩ = some (.slice d.tp d.tl d.tc)
theorem InsAt.below {B : Nat} {W w : World} {a : Addr} {d : Ins} (h : InsAt W a d) (hb : Below B W w) (ha : a.block < B) : InsAt w a d := by
  obtain ⟨h0, h1, h2, h3, h4, h5, h6⟩ := h
  exact ⟨(hb.cell ha).trans h0, (hb.cell (p := ⟨a.block, a.off + 1, none⟩) ha).trans h1, (hb.cell (p := ⟨a.block, a.off + 2, none⟩) ha).trans h2, (hb.cell (p := ⟨a.block, a.off + 3, none⟩) ha).trans h3,
    (hb.cell (p := ⟨a.block, a.off + 4, none⟩) ha).trans h4, (hb.cell (p := ⟨a.block, a.off + 5, none⟩) ha).trans h5, (hb.cell (p := ⟨a.block, a.off + 6, none⟩) ha).trans h6⟩
/-- A list of instructions, in blocks below B. -/
def CodeAt (B : Nat) (w : World) (s : Value) (l : List Ins) : Prop :=
  ∃ (p : Option Addr) (cap : Nat), s = .slice p l.length cap ∧ l.length ≤ cap ∧ cap ≤ maxLen ∧ ∀ i (h : i < l.length), ∃ a, p = some a ∧ a.block < B ∧ InsAt w (a.add (i * 7)) l[i]
def BlocksAt (B : Nat) (w : World) (s : Value) (l : List (List Ins)) : Prop :=
  ∃ (p : Option Addr) (cap : Nat), s = .slice p l.length cap ∧ l.length ≤ cap ∧ cap ≤ maxLen ∧ ∀ i (h : i < l.length), ∃ a v, p = some a ∧ a.block < B ∧ w.cell? (a.add i) = some v ∧ CodeAt B w v l[i]
theorem ret_int {k : IntKind} {a b : Int} (h : a = b) : Ending.returned (.int k a) = .returned (.int k b) := by rw [h]
theorem ret_bool {a b : Bool} (h : a = b) : Ending.returned (.bool a) = .returned (.bool b) := by rw [h]
theorem CodeAt.below {B : Nat} {W w : World} {s : Value} {l : List Ins} (h : CodeAt B W s l) (hb : Below B W w) : CodeAt B w s l := by
  obtain ⟨p, cap, h1, h2, h3, h4⟩ := h
  refine ⟨p, cap, h1, h2, h3, fun i hi => ?_⟩
  obtain ⟨a, e, ha, hI⟩ := h4 i hi
  exact ⟨a, e, ha, hI.below hb (by rw [add_block]; exact ha)⟩
theorem BlocksAt.below {B : Nat} {W w : World} {s : Value} {l : List (List Ins)} (h : BlocksAt B W s l) (hb : Below B W w) : BlocksAt B w s l := by
  obtain ⟨p, cap, h1, h2, h3, h4⟩ := h
  refine ⟨p, cap, h1, h2, h3, fun i hi => ?_⟩
  obtain ⟨a, v, e, ha, hc, hI⟩ := h4 i hi
  exact ⟨a, v, e, ha, (hb.cell (p := a.add i) (by rw [add_block]; exact ha)).trans hc, hI.below hb⟩
/-- A block of one cell of the call's own, that may be written. -/
def One (B : Nat) (c : Nat) (v : Value) (w : World) : Prop := B ≤ c ∧ c < w.heap.size ∧ w.cell? ⟨c, 0, none⟩ = some v ∧ w.frozen? ⟨c, 0, none⟩ = false
theorem One.alloc {B c : Nat} {v : Value} {w : World} (h : One B c v w) (x : Array Value) (t : TypeId) : One B c v (w.alloc (.cells x t)) := by
  obtain ⟨h1, h2, h3, h4⟩ := h
  refine ⟨h1, by simp; omega, by rw [World.cell?_alloc_past _ _ _ h2]; exact h3, ?_⟩
  exact (((Below.refl w.heap.size w).alloc (Nat.le_refl _) _).frozen (p := ⟨c, 0, none⟩) h2).trans h4
theorem One.new {B : Nat} (w : World) (hB : B ≤ w.heap.size) (v : Value) (t : TypeId) : One B w.heap.size v (w.alloc (.cells #[v] t)) :=
  ⟨hB, by simp, by rw [World.cell?_alloc_at _ _ _ _ rfl]; rfl, World.frozen?_alloc_at _ _ _ _ rfl⟩
theorem One.new2 {B : Nat} (w : World) (hB : B ≤ w.heap.size) (x : Array Value) (t' : TypeId) (v : Value) (t : TypeId) : One B (w.heap.size + 1) v ((w.alloc (.cells x t')).alloc (.cells #[v] t)) := by
  have h := One.new (w.alloc (.cells x t')) (B := B) (by simp; omega) v t
  have e : (w.alloc (.cells x t')).heap.size = w.heap.size + 1 := by simp
  rwa [e] at h
theorem One.set {B c : Nat} {v : Value} {w : World} (h : One B c v w) (v' : Value) : One B c v' (w.setCell ⟨c, 0, none⟩ v') := by
  obtain ⟨h1, h2, h3, h4⟩ := h
  exact ⟨h1, by simpa [World.setCell] using h2, by rw [World.cell?_setCell_same' _ _ _ (by rw [h3]; rfl)], by rw [World.frozen?_setCell]; exact h4⟩
/-- From w on, nothing below B has changed. -/
def Past (B : Nat) (W w : World) : Prop := B ≤ W.heap.size ∧ Below B W w
theorem Past.refl {B : Nat} {W : World} (h : B ≤ W.heap.size) : Past B W W := ⟨h, Below.refl _ _⟩
theorem Past.size {B : Nat} {W w : World} (h : Past B W w) : B ≤ w.heap.size := Nat.le_trans h.1 h.2.size
theorem Past.alloc {B : Nat} {W w : World} (h : Past B W w) (o : Obj) : Past B W (w.alloc o) := ⟨h.1, h.2.alloc h.size o⟩
theorem Past.set {B : Nat} {W w : World} (h : Past B W w) {a : Addr} (ha : B ≤ a.block) (v : Value) : Past B W (w.setCell a v) := ⟨h.1, h.2.setCell ha v⟩
theorem Past.trans {B : Nat} {a b c : World} (h : Past B a b) (k : Past B b c) : Past B a c := ⟨h.1, h.2.trans k.2⟩
theorem Past.drew {B : Nat} {W w : World} (h : Past B W w) : Past B W w.drew := ⟨h.1, ⟨h.2.os, h.2.tape, h.2.output, h.2.size, h.2.block⟩⟩
theorem One.past {B c : Nat} {v : Value} {W w : World} (h : One B c v W) (hb : Past (c + 1) W w) : One B c v w := by
  obtain ⟨h1, h2, h3, h4⟩ := h
  exact ⟨h1, Nat.lt_of_lt_of_le h2 hb.2.size, (hb.2.cell (p := ⟨c, 0, none⟩) (Nat.lt_succ_self c)).trans h3, (hb.2.frozen (p := ⟨c, 0, none⟩) (Nat.lt_succ_self c)).trans h4⟩
theorem One.other {B c d : Nat} {v : Value} {w : World} (h : One B c v w) (hd : d ≠ c) (v' : Value) : One B c v (w.setCell ⟨d, 0, none⟩ v') := by
  obtain ⟨h1, h2, h3, h4⟩ := h
  exact ⟨h1, by simpa [World.setCell] using h2, by rw [World.cell?_setCell_other (h := fun e => hd (by injection e))]; exact h3, by rw [World.frozen?_setCell]; exact h4⟩
/-- An operand's three cells. -/
def ArgAt (w : World) (a : Addr) (v : Arg) : Prop :=
  w.cell? a = some (.int .i64 v.kind) ∧ w.cell? ⟨a.block, a.off + 1, none⟩ = some (.int .i64 v.n) ∧ w.cell? ⟨a.block, a.off + 2, none⟩ = some (.int .u64 v.bits)
theorem ArgAt.below {B : Nat} {W w : World} {a : Addr} {v : Arg} (h : ArgAt W a v) (hb : Below B W w) (ha : a.block < B) : ArgAt w a v := by
  obtain ⟨h0, h1, h2⟩ := h
  exact ⟨(hb.cell ha).trans h0, (hb.cell (p := ⟨a.block, a.off + 1, none⟩) ha).trans h1, (hb.cell (p := ⟨a.block, a.off + 2, none⟩) ha).trans h2⟩
/-- The operands of an instruction lie below B. -/
def ArgsAt (B : Nat) (w : World) (d : Ins) : Prop :=
  d.al = d.args.length ∧ d.al ≤ d.ac ∧ d.ac ≤ maxLen ∧ ∀ i (h : i < d.args.length), ∃ a, d.ap = some a ∧ a.block < B ∧ ArgAt w (a.add (i * 3)) d.args[i]
theorem ArgsAt.below {B : Nat} {W w : World} {d : Ins} (h : ArgsAt B W d) (hb : Below B W w) : ArgsAt B w d := by
  obtain ⟨h1, h2, h3, h4⟩ := h
  refine ⟨h1, h2, h3, fun i hi => ?_⟩
  obtain ⟨a, e, ha, hI⟩ := h4 i hi
  exact ⟨a, e, ha, hI.below hb (by rw [add_block]; exact ha)⟩
/-- Every instruction's operands lie below B. -/
def AllArgs (B : Nat) (w : World) (l : List (List Ins)) : Prop := ∀ b (h : b < l.length) k (hk : k < l[b].length), ArgsAt B w l[b][k]
theorem AllArgs.below {B : Nat} {W w : World} {l : List (List Ins)} (h : AllArgs B W l) (hb : Below B W w) : AllArgs B w l := fun b h1 k h2 => (h b h1 k h2).below hb
/-- How many operands there are. -/
def argsNum (l : List Ins) : Nat := (l.map fun d => d.args.length).sum
def idleB (op : Int) : Bool := decide (1 ≤ op ∧ op ≤ 29 ∧ op ≠ 28)
def calmB (op : Int) : Bool := decide (1 ≤ op ∧ op ≤ 29 ∧ op ≠ 4 ∧ op ≠ 5 ∧ op ≠ 6 ∧ op ≠ 7 ∧ op ≠ 25 ∧ op ≠ 26 ∧ op ≠ 27 ∧ op ≠ 28)
def resV (op ty : Int) : Int := if op < 1 ∨ 30 < op ∨ op = 28 then 0 else if op = 26 ∨ op = 29 then 65 else if 14 ≤ op ∧ op ≤ 19 then 1 else ty
theorem Idle_any (op : Int) (W : World) : Calls Try.prog 21 #[.int .i64 op] W fun e w' => e = .returned (.bool (idleB op)) ∧ W = w' := by
  unfold idleB
  go_enter Try.func21, Try.ntmps21
  go_wp2
  all_goals go_ret
  all_goals exact ⟨ret_bool (by rw [Bool.eq_iff_iff]; simp; omega), rfl⟩
theorem Calm_any (op : Int) (W : World) : Calls Try.prog 10 #[.int .i64 op] W fun e w' => e = .returned (.bool (calmB op)) ∧ W = w' := by
  have ci := Idle_any op
  have hc : calmB op = (idleB op && !decide (op = 4 ∨ op = 5 ∨ op = 6 ∨ op = 7 ∨ op = 25 ∨ op = 26 ∨ op = 27)) := by unfold calmB idleB; rw [Bool.eq_iff_iff]; simp; omega
  rw [hc]
  clear hc
  generalize idleB op = I at *
  go_enter Try.func10, Try.ntmps10
  go_wp2_with ((with_reducible refine (ci _).mono ?_); rintro e w' ⟨rfl, rfl⟩)
  all_goals go_ret
  all_goals exact ⟨ret_bool (by simp_all), rfl⟩
theorem res_cases (op : Int) : op < 1 ∨ (1 ≤ op ∧ op ≤ 13) ∨ (14 ≤ op ∧ op ≤ 19) ∨ (20 ≤ op ∧ op ≤ 25) ∨ op = 26 ∨ op = 27 ∨ op = 28 ∨ op = 29 ∨ op = 30 ∨ (31 ≤ op ∧ op ≤ 34) ∨ 34 < op := by omega
set_option maxHeartbeats 1000000 in
theorem rResult_any (op rg ty n fl : Int) (ap tp : Option Addr) (al ac tl tc : Nat) (W : World) :
    Calls Try.prog 15 #[.agg #[.int .i64 op, .int .i64 rg, .int .i64 ty, .int .i64 n, .int .i64 fl, .slice ap al ac, .slice tp tl tc]] W fun e w' =>
      e = .returned (.int .i64 (resV op ty)) ∧ w' = W.alloc (.cells #[.int .i64 op, .int .i64 rg, .int .i64 ty, .int .i64 n, .int .i64 fl, .slice ap al ac, .slice tp tl tc] 25) := by
  rcases res_cases op with h | ⟨h, h'⟩ | ⟨h, h'⟩ | ⟨h, h'⟩ | rfl | rfl | rfl | rfl | rfl | ⟨h, h'⟩ | h
  · have hR : resV op ty = 0 := by unfold resV; (repeat' split) <;> first | rfl | (exfalso; omega)
    rw [hR]
    clear hR
    have e14 : (op == 14) = false := by simpa using (show ¬ op = 14 by omega)
    have e15 : (op == 15) = false := by simpa using (show ¬ op = 15 by omega)
    have e16 : (op == 16) = false := by simpa using (show ¬ op = 16 by omega)
    have e17 : (op == 17) = false := by simpa using (show ¬ op = 17 by omega)
    have e18 : (op == 18) = false := by simpa using (show ¬ op = 18 by omega)
    have e19 : (op == 19) = false := by simpa using (show ¬ op = 19 by omega)
    have e26 : (op == 26) = false := by simpa using (show ¬ op = 26 by omega)
    have e28 : (op == 28) = false := by simpa using (show ¬ op = 28 by omega)
    have e29 : (op == 29) = false := by simpa using (show ¬ op = 29 by omega)
    go_enter Try.func15, Try.ntmps15
    go_wp2
    go_ret
    exact ⟨rfl, rfl⟩
  · have hR : resV op ty = ty := by unfold resV; (repeat' split) <;> first | rfl | (exfalso; omega)
    rw [hR]
    clear hR
    have e14 : (op == 14) = false := by simpa using (show ¬ op = 14 by omega)
    have e15 : (op == 15) = false := by simpa using (show ¬ op = 15 by omega)
    have e16 : (op == 16) = false := by simpa using (show ¬ op = 16 by omega)
    have e17 : (op == 17) = false := by simpa using (show ¬ op = 17 by omega)
    have e18 : (op == 18) = false := by simpa using (show ¬ op = 18 by omega)
    have e19 : (op == 19) = false := by simpa using (show ¬ op = 19 by omega)
    have e26 : (op == 26) = false := by simpa using (show ¬ op = 26 by omega)
    have e28 : (op == 28) = false := by simpa using (show ¬ op = 28 by omega)
    have e29 : (op == 29) = false := by simpa using (show ¬ op = 29 by omega)
    go_enter Try.func15, Try.ntmps15
    go_wp2
    go_ret
    exact ⟨rfl, rfl⟩
  · have hR : resV op ty = 1 := by unfold resV; (repeat' split) <;> first | rfl | (exfalso; omega)
    rw [hR]
    clear hR
    have h6 : op = 14 ∨ op = 15 ∨ op = 16 ∨ op = 17 ∨ op = 18 ∨ op = 19 := by omega
    clear h h'
    rcases h6 with rfl | rfl | rfl | rfl | rfl | rfl
    all_goals
      go_enter Try.func15, Try.ntmps15
      go_wp2
      go_ret
      exact ⟨rfl, rfl⟩
  · have hR : resV op ty = ty := by unfold resV; (repeat' split) <;> first | rfl | (exfalso; omega)
    rw [hR]
    clear hR
    have e14 : (op == 14) = false := by simpa using (show ¬ op = 14 by omega)
    have e15 : (op == 15) = false := by simpa using (show ¬ op = 15 by omega)
    have e16 : (op == 16) = false := by simpa using (show ¬ op = 16 by omega)
    have e17 : (op == 17) = false := by simpa using (show ¬ op = 17 by omega)
    have e18 : (op == 18) = false := by simpa using (show ¬ op = 18 by omega)
    have e19 : (op == 19) = false := by simpa using (show ¬ op = 19 by omega)
    have e26 : (op == 26) = false := by simpa using (show ¬ op = 26 by omega)
    have e28 : (op == 28) = false := by simpa using (show ¬ op = 28 by omega)
    have e29 : (op == 29) = false := by simpa using (show ¬ op = 29 by omega)
    go_enter Try.func15, Try.ntmps15
    go_wp2
    go_ret
    exact ⟨rfl, rfl⟩
  · have hR : resV 26 ty = 65 := rfl
    rw [hR]
    clear hR
    go_enter Try.func15, Try.ntmps15
    go_wp2
    go_ret
    exact ⟨rfl, rfl⟩
  · have hR : resV 27 ty = ty := rfl
    rw [hR]
    clear hR
    go_enter Try.func15, Try.ntmps15
    go_wp2
    go_ret
    exact ⟨rfl, rfl⟩
  · have hR : resV 28 ty = 0 := rfl
    rw [hR]
    clear hR
    go_enter Try.func15, Try.ntmps15
    go_wp2
    go_ret
    exact ⟨rfl, rfl⟩
  · have hR : resV 29 ty = 65 := rfl
    rw [hR]
    clear hR
    go_enter Try.func15, Try.ntmps15
    go_wp2
    go_ret
    exact ⟨rfl, rfl⟩
  · have hR : resV 30 ty = ty := rfl
    rw [hR]
    clear hR
    go_enter Try.func15, Try.ntmps15
    go_wp2
    go_ret
    exact ⟨rfl, rfl⟩
  · have hR : resV op ty = 0 := by unfold resV; (repeat' split) <;> first | rfl | (exfalso; omega)
    rw [hR]
    clear hR
    have e14 : (op == 14) = false := by simpa using (show ¬ op = 14 by omega)
    have e15 : (op == 15) = false := by simpa using (show ¬ op = 15 by omega)
    have e16 : (op == 16) = false := by simpa using (show ¬ op = 16 by omega)
    have e17 : (op == 17) = false := by simpa using (show ¬ op = 17 by omega)
    have e18 : (op == 18) = false := by simpa using (show ¬ op = 18 by omega)
    have e19 : (op == 19) = false := by simpa using (show ¬ op = 19 by omega)
    have e26 : (op == 26) = false := by simpa using (show ¬ op = 26 by omega)
    have e28 : (op == 28) = false := by simpa using (show ¬ op = 28 by omega)
    have e29 : (op == 29) = false := by simpa using (show ¬ op = 29 by omega)
    go_enter Try.func15, Try.ntmps15
    go_wp2
    go_ret
    exact ⟨rfl, rfl⟩
  · have hR : resV op ty = 0 := by unfold resV; (repeat' split) <;> first | rfl | (exfalso; omega)
    rw [hR]
    clear hR
    have e14 : (op == 14) = false := by simpa using (show ¬ op = 14 by omega)
    have e15 : (op == 15) = false := by simpa using (show ¬ op = 15 by omega)
    have e16 : (op == 16) = false := by simpa using (show ¬ op = 16 by omega)
    have e17 : (op == 17) = false := by simpa using (show ¬ op = 17 by omega)
    have e18 : (op == 18) = false := by simpa using (show ¬ op = 18 by omega)
    have e19 : (op == 19) = false := by simpa using (show ¬ op = 19 by omega)
    have e26 : (op == 26) = false := by simpa using (show ¬ op = 26 by omega)
    have e28 : (op == 28) = false := by simpa using (show ¬ op = 28 by omega)
    have e29 : (op == 29) = false := by simpa using (show ¬ op = 29 by omega)
    go_enter Try.func15, Try.ntmps15
    go_wp2
    go_ret
    exact ⟨rfl, rfl⟩
def tab : Nat → Int
  | 0 => 4
  | 1 => 5
  | 2 => 6
  | 3 => 7
  | 4 => 25
  | 5 => 26
  | 6 => 27
  | _ => 28
set_option maxHeartbeats 2000000 in
theorem rCalm_any (op : Int) (W : World) : Calls Try.prog 13 #[.int .i64 op] W fun e w' => e = .returned (.bool (calmB op)) ∧ w' = W.alloc (.cells #[.int .i64 4, .int .i64 5, .int .i64 6, .int .i64 7, .int .i64 25, .int .i64 26, .int .i64 27, .int .i64 28] 3) := by
  go_enter Try.func13, Try.ntmps13
  go_wp2
  go_loopw [4] (fun t wr => ∃ k : Nat, k ≤ 8 ∧ t = .int .i64 k ∧ wr = W.alloc (.cells #[.int .i64 4, .int .i64 5, .int .i64 6, .int .i64 7, .int .i64 25, .int .i64 26, .int .i64 27, .int .i64 28] 3) ∧ ∀ j, j < k → op ≠ tab j) (fun t _ => 8 - (intOf t).toNat)
  case atStart => exact ⟨0, by omega, rfl, rfl, fun j h => absurd h (Nat.not_lt_zero j)⟩
  case round =>
    obtain ⟨k, hk, rfl, rfl, hne⟩ := hrel
    have HNE := Lib.hid hne
    clear hne
    by_cases hlt : k < 8
    · have h8 : k = 0 ∨ k = 1 ∨ k = 2 ∨ k = 3 ∨ k = 4 ∨ k = 5 ∨ k = 6 ∨ k = 7 := by omega
      clear hk hlt
      rcases h8 with rfl | rfl | rfl | rfl | rfl | rfl | rfl | rfl
      · by_cases e : op = 4
        · subst e
          go_wp2
          go_ret
          exact ⟨ret_bool rfl, rfl⟩
        · have e1 : ((4 : Int) == op) = false := by simpa using (show ¬ (4 : Int) = op by omega)
          have e2 : (op == 4) = false := by simpa using e
          have hn : ∀ j, j < 1 → op ≠ tab j := fun j hj => by
            by_cases hj2 : j = 0
            · subst hj2; exact e
            · exact HNE.out j (by omega)
          have HN := Lib.hid hn
          clear hn e
          go_wp2
          exact ⟨⟨1, by omega, by first | trivial | rfl, by first | trivial | rfl, HN.out⟩, by simp [intOf]⟩
      · by_cases e : op = 5
        · subst e
          go_wp2
          go_ret
          exact ⟨ret_bool rfl, rfl⟩
        · have e1 : ((5 : Int) == op) = false := by simpa using (show ¬ (5 : Int) = op by omega)
          have e2 : (op == 5) = false := by simpa using e
          have hn : ∀ j, j < 2 → op ≠ tab j := fun j hj => by
            by_cases hj2 : j = 1
            · subst hj2; exact e
            · exact HNE.out j (by omega)
          have HN := Lib.hid hn
          clear hn e
          go_wp2
          exact ⟨⟨2, by omega, by first | trivial | rfl, by first | trivial | rfl, HN.out⟩, by simp [intOf]⟩
      · by_cases e : op = 6
        · subst e
          go_wp2
          go_ret
          exact ⟨ret_bool rfl, rfl⟩
        · have e1 : ((6 : Int) == op) = false := by simpa using (show ¬ (6 : Int) = op by omega)
          have e2 : (op == 6) = false := by simpa using e
          have hn : ∀ j, j < 3 → op ≠ tab j := fun j hj => by
            by_cases hj2 : j = 2
            · subst hj2; exact e
            · exact HNE.out j (by omega)
          have HN := Lib.hid hn
          clear hn e
          go_wp2
          exact ⟨⟨3, by omega, by first | trivial | rfl, by first | trivial | rfl, HN.out⟩, by simp [intOf]⟩
      · by_cases e : op = 7
        · subst e
          go_wp2
          go_ret
          exact ⟨ret_bool rfl, rfl⟩
        · have e1 : ((7 : Int) == op) = false := by simpa using (show ¬ (7 : Int) = op by omega)
          have e2 : (op == 7) = false := by simpa using e
          have hn : ∀ j, j < 4 → op ≠ tab j := fun j hj => by
            by_cases hj2 : j = 3
            · subst hj2; exact e
            · exact HNE.out j (by omega)
          have HN := Lib.hid hn
          clear hn e
          go_wp2
          exact ⟨⟨4, by omega, by first | trivial | rfl, by first | trivial | rfl, HN.out⟩, by simp [intOf]⟩
      · by_cases e : op = 25
        · subst e
          go_wp2
          go_ret
          exact ⟨ret_bool rfl, rfl⟩
        · have e1 : ((25 : Int) == op) = false := by simpa using (show ¬ (25 : Int) = op by omega)
          have e2 : (op == 25) = false := by simpa using e
          have hn : ∀ j, j < 5 → op ≠ tab j := fun j hj => by
            by_cases hj2 : j = 4
            · subst hj2; exact e
            · exact HNE.out j (by omega)
          have HN := Lib.hid hn
          clear hn e
          go_wp2
          exact ⟨⟨5, by omega, by first | trivial | rfl, by first | trivial | rfl, HN.out⟩, by simp [intOf]⟩
      · by_cases e : op = 26
        · subst e
          go_wp2
          go_ret
          exact ⟨ret_bool rfl, rfl⟩
        · have e1 : ((26 : Int) == op) = false := by simpa using (show ¬ (26 : Int) = op by omega)
          have e2 : (op == 26) = false := by simpa using e
          have hn : ∀ j, j < 6 → op ≠ tab j := fun j hj => by
            by_cases hj2 : j = 5
            · subst hj2; exact e
            · exact HNE.out j (by omega)
          have HN := Lib.hid hn
          clear hn e
          go_wp2
          exact ⟨⟨6, by omega, by first | trivial | rfl, by first | trivial | rfl, HN.out⟩, by simp [intOf]⟩
      · by_cases e : op = 27
        · subst e
          go_wp2
          go_ret
          exact ⟨ret_bool rfl, rfl⟩
        · have e1 : ((27 : Int) == op) = false := by simpa using (show ¬ (27 : Int) = op by omega)
          have e2 : (op == 27) = false := by simpa using e
          have hn : ∀ j, j < 7 → op ≠ tab j := fun j hj => by
            by_cases hj2 : j = 6
            · subst hj2; exact e
            · exact HNE.out j (by omega)
          have HN := Lib.hid hn
          clear hn e
          go_wp2
          exact ⟨⟨7, by omega, by first | trivial | rfl, by first | trivial | rfl, HN.out⟩, by simp [intOf]⟩
      · by_cases e : op = 28
        · subst e
          go_wp2
          go_ret
          exact ⟨ret_bool rfl, rfl⟩
        · have e1 : ((28 : Int) == op) = false := by simpa using (show ¬ (28 : Int) = op by omega)
          have e2 : (op == 28) = false := by simpa using e
          have hn : ∀ j, j < 8 → op ≠ tab j := fun j hj => by
            by_cases hj2 : j = 7
            · subst hj2; exact e
            · exact HNE.out j (by omega)
          have HN := Lib.hid hn
          clear hn e
          go_wp2
          exact ⟨⟨8, by omega, by first | trivial | rfl, by first | trivial | rfl, HN.out⟩, by simp [intOf]⟩
    · obtain rfl : k = 8 := by omega
      have n0 := HNE.out 0 (by omega)
      have n1 := HNE.out 1 (by omega)
      have n2 := HNE.out 2 (by omega)
      have n3 := HNE.out 3 (by omega)
      have n4 := HNE.out 4 (by omega)
      have n5 := HNE.out 5 (by omega)
      have n6 := HNE.out 6 (by omega)
      have n7 := HNE.out 7 (by omega)
      simp only [tab] at n0 n1 n2 n3 n4 n5 n6 n7
      have hc : calmB op = (decide (1 ≤ op) && decide (op ≤ 29)) := by unfold calmB; rw [Bool.eq_iff_iff]; simp; omega
      have HC := Lib.hid hc
      clear hc n0 n1 n2 n3 n4 n5 n6 n7
      go_wp2
      all_goals go_ret
      all_goals exact ⟨ret_bool (by rw [HC.out]; first | (simp_all; done) | (simp_all; omega) | (simp; omega)), rfl⟩
/-- A block of three cells of the call's own, that may be written. -/
def Tri (B : Nat) (g : Nat) (x y z : Value) (w : World) : Prop :=
  B ≤ g ∧ g < w.heap.size ∧ w.cell? ⟨g, 0, none⟩ = some x ∧ w.cell? ⟨g, 1, none⟩ = some y ∧ w.cell? ⟨g, 2, none⟩ = some z ∧ ∀ i, w.frozen? ⟨g, i, none⟩ = false
theorem Tri.past {B g : Nat} {x y z : Value} {W w : World} (h : Tri B g x y z W) (hb : Below W.heap.size W w) : Tri B g x y z w := by
  obtain ⟨h0, h1, h2, h3, h4, h5⟩ := h
  exact ⟨h0, Nat.lt_of_lt_of_le h1 hb.size, (hb.cell (p := ⟨g, 0, none⟩) h1).trans h2, (hb.cell (p := ⟨g, 1, none⟩) h1).trans h3, (hb.cell (p := ⟨g, 2, none⟩) h1).trans h4, fun i => (hb.frozen (p := ⟨g, i, none⟩) h1).trans (h5 i)⟩
theorem Tri.alloc {B g : Nat} {x y z : Value} {w : World} (h : Tri B g x y z w) (c : Array Value) (t : TypeId) : Tri B g x y z (w.alloc (.cells c t)) := h.past ((Below.refl _ _).alloc (Nat.le_refl _) _)
theorem Tri.new {B : Nat} (w : World) (hB : B ≤ w.heap.size) (x y z : Value) (t : TypeId) : Tri B w.heap.size x y z (w.alloc (.cells #[x, y, z] t)) :=
  ⟨hB, by simp, by rw [World.cell?_alloc_at _ _ _ _ rfl]; rfl, by rw [World.cell?_alloc_at _ _ _ _ rfl]; rfl, by rw [World.cell?_alloc_at _ _ _ _ rfl]; rfl, fun i => World.frozen?_alloc_at _ _ _ _ rfl⟩
theorem Tri.other {B g : Nat} {x y z : Value} {w : World} (h : Tri B g x y z w) {d : Nat} (hd : d ≠ g) (i : Nat) (v : Value) : Tri B g x y z (w.setCell ⟨d, i, none⟩ v) := by
  obtain ⟨h0, h1, h2, h3, h4, h5⟩ := h
  exact ⟨h0, by simpa [World.setCell] using h1, by rw [World.cell?_setCell_other (h := fun e => hd (by injection e))]; exact h2, by rw [World.cell?_setCell_other (h := fun e => hd (by injection e))]; exact h3,
    by rw [World.cell?_setCell_other (h := fun e => hd (by injection e))]; exact h4, fun i => by rw [World.frozen?_setCell]; exact h5 i⟩
theorem Tri.set {B g : Nat} {x y z : Value} {w : World} (h : Tri B g x y z w) (x' y' z' : Value) : Tri B g x' y' z' (((w.setCell ⟨g, 0, none⟩ x').setCell ⟨g, 1, none⟩ y').setCell ⟨g, 2, none⟩ z') := by
  obtain ⟨h0, h1, h2, h3, h4, h5⟩ := h
  have ne : ∀ i j : Nat, i ≠ j → (⟨g, i, none⟩ : Addr) ≠ ⟨g, j, none⟩ := fun i j h h2 => h (by injection h2)
  refine ⟨h0, by simpa [World.setCell] using h1, ?_, ?_, ?_, fun i => by simp only [World.frozen?_setCell]; exact h5 i⟩
  · rw [World.cell?_setCell_other (h := ne 2 0 (by decide)), World.cell?_setCell_other (h := ne 1 0 (by decide)), World.cell?_setCell_same' _ _ _ (by rw [h2]; rfl)]
  · rw [World.cell?_setCell_other (h := ne 2 1 (by decide)), World.cell?_setCell_same' _ _ _ (by rw [World.cell?_setCell_other (h := ne 0 1 (by decide)), h3]; rfl)]
  · rw [World.cell?_setCell_same' _ _ _ (by rw [World.cell?_setCell_other (h := ne 1 2 (by decide)), World.cell?_setCell_other (h := ne 0 2 (by decide)), h4]; rfl)]
theorem Past.below {B : Nat} {W w : World} (h : Past B W w) : Below B W w := h.2
theorem Tri.set' {B g : Nat} {x y z x' y' z' : Value} {w : World} (h : Tri B g x y z w) : Tri B g x' y' z' (((w.setCell ⟨g, 0, none⟩ x').setCell ⟨g, 1, none⟩ y').setCell ⟨g, 2, none⟩ z') := h.set x' y' z'
/-- Does an instruction make the register? -/
def mk (reg : Int) (d : Ins) : Bool := d.reg == reg && resV d.op d.ty != 0
/-- Is a place ahead of another one? -/
def before (b' k' b k : Nat) : Prop := b' < b ∨ (b' = b ∧ k' < k)
/-- Is the register made there? -/
def hit (reg : Int) (l : List (List Ins)) (b k : Nat) : Prop := ∃ c d, l[b]? = some c ∧ c[k]? = some d ∧ mk reg d = true
/-- What has been found ahead of a place: the first that makes the register, if there is one. -/
def DefS (l : List (List Ins)) (reg : Int) (b k : Nat) (f : Bool) (y z : Int) : Prop :=
  (f = false ∧ y = 0 ∧ z = 0 ∧ ∀ b' k', before b' k' b k → ¬ hit reg l b' k') ∨
  (f = true ∧ ∃ b' k' : Nat, y = b' ∧ z = k' ∧ before b' k' b k ∧ hit reg l b' k' ∧ ∀ b2 k2, before b2 k2 b' k' → ¬ hit reg l b2 k2)
theorem DefS.start (l : List (List Ins)) (reg : Int) : DefS l reg 0 0 false 0 0 := .inl ⟨rfl, rfl, rfl, fun b' k' h => by rcases h with h | ⟨_, h⟩ <;> exact absurd h (Nat.not_lt_zero _)⟩
theorem CodeAt.mono {B B' : Nat} {w : World} {s : Value} {l : List Ins} (h : CodeAt B w s l) (hB : B ≤ B') : CodeAt B' w s l := by
  obtain ⟨p, cap, h1, h2, h3, h4⟩ := h
  refine ⟨p, cap, h1, h2, h3, fun i hi => ?_⟩
  obtain ⟨a, e, ha, hI⟩ := h4 i hi
  exact ⟨a, e, Nat.lt_of_lt_of_le ha hB, hI⟩
theorem BlocksAt.mono {B B' : Nat} {w : World} {s : Value} {l : List (List Ins)} (h : BlocksAt B w s l) (hB : B ≤ B') : BlocksAt B' w s l := by
  obtain ⟨p, cap, h1, h2, h3, h4⟩ := h
  refine ⟨p, cap, h1, h2, h3, fun i hi => ?_⟩
  obtain ⟨a, v, e, ha, hc, hI⟩ := h4 i hi
  exact ⟨a, v, e, Nat.lt_of_lt_of_le ha hB, hc, hI.mono hB⟩
theorem Tri.below {B B' g : Nat} {x y z : Value} {W w : World} (h : Tri B g x y z W) (hb : Below B' W w) (hg : g < B') : Tri B g x y z w := by
  obtain ⟨h0, h1, h2, h3, h4, h5⟩ := h
  exact ⟨h0, Nat.lt_of_lt_of_le h1 hb.size, (hb.cell (p := ⟨g, 0, none⟩) hg).trans h2, (hb.cell (p := ⟨g, 1, none⟩) hg).trans h3, (hb.cell (p := ⟨g, 2, none⟩) hg).trans h4, fun i => (hb.frozen (p := ⟨g, i, none⟩) hg).trans (h5 i)⟩
theorem Past.grown {B m : Nat} {W w w' : World} (h : Past B W w) (g : w.grownBy w' (some m)) (hm : B ≤ m) : Past B W w' := ⟨h.1, h.2.grown g h.size (fun j hj => by cases hj; exact hm)⟩
theorem One.grown {B c m : Nat} {v : Value} {w w' : World} (h : One B c v w) (g : w.grownBy w' (some m)) (hm : c ≠ m) : One B c v w' := by
  obtain ⟨h1, h2, h3, h4⟩ := h
  obtain ⟨_, _, _, hs, hk⟩ := g
  have hb := hk c h2 (fun e => hm (by injection e))
  refine ⟨h1, Nat.lt_of_lt_of_le h2 hs, ?_, ?_⟩
  · unfold World.cell? at h3 ⊢; simp only [hb]; exact h3
  · unfold World.frozen? at h4 ⊢; simp only [hb]; exact h4
def cnt (l : List Ins) : Nat := l.length + argsNum l
theorem ArgsAt.mono {B B' : Nat} {w : World} {d : Ins} (h : ArgsAt B w d) (hB : B ≤ B') : ArgsAt B' w d := by
  obtain ⟨h1, h2, h3, h4⟩ := h
  refine ⟨h1, h2, h3, fun i hi => ?_⟩
  obtain ⟨a, e, ha, hI⟩ := h4 i hi
  exact ⟨a, e, Nat.lt_of_lt_of_le ha hB, hI⟩
/-- The small function's one instruction. -/
def dI (n : Nat) : Ins := { op := 1, reg := 7, ty := 8, n := 0, fl := 0, ap := some ⟨n + 1, 0, none⟩, al := 2, ac := 2, tp := none, tl := 0, tc := 0, args := [⟨1, 0, 0⟩, ⟨1, 7, 0⟩] }
/-- The small function lies in the blocks from n on. -/
structure LitAt (n : Nat) (w : World) : Prop where
  size : n + 5 ≤ w.heap.size
  a0 : w.cell? ⟨n + 1, 0, none⟩ = some (.int .i64 1)
  a1 : w.cell? ⟨n + 1, 1, none⟩ = some (.int .i64 0)
  a2 : w.cell? ⟨n + 1, 2, none⟩ = some (.int .u64 0)
  a3 : w.cell? ⟨n + 1, 3, none⟩ = some (.int .i64 1)
  a4 : w.cell? ⟨n + 1, 4, none⟩ = some (.int .i64 7)
  a5 : w.cell? ⟨n + 1, 5, none⟩ = some (.int .u64 0)
  i0 : w.cell? ⟨n + 2, 0, none⟩ = some (.int .i64 1)
  i1 : w.cell? ⟨n + 2, 1, none⟩ = some (.int .i64 7)
  i2 : w.cell? ⟨n + 2, 2, none⟩ = some (.int .i64 8)
  i3 : w.cell? ⟨n + 2, 3, none⟩ = some (.int .i64 0)
  i4 : w.cell? ⟨n + 2, 4, none⟩ = some (.int .i64 0)
  i5 : w.cell? ⟨n + 2, 5, none⟩ = some (.slice (some ⟨n + 1, 0, none⟩) 2 2)
  i6 : w.cell? ⟨n + 2, 6, none⟩ = some (.slice none 0 0)
  b0 : w.cell? ⟨n + 3, 0, none⟩ = some (.slice (some ⟨n + 2, 0, none⟩) 1 1)
  f0 : w.cell? ⟨n + 4, 0, none⟩ = some (.string { data := #[] })
  f1 : w.cell? ⟨n + 4, 1, none⟩ = some (.slice (some ⟨n, 0, none⟩) 2 2)
  f2 : w.cell? ⟨n + 4, 2, none⟩ = some (.int .i64 8)
  f3 : w.cell? ⟨n + 4, 3, none⟩ = some (.slice (some ⟨n + 3, 0, none⟩) 1 1)
theorem LitAt.below {n : Nat} {w w' : World} (h : LitAt n w) (hb : Below w.heap.size w w') : LitAt n w' := by
  have hs := h.size
  have k : ∀ b o, b < n + 5 → w'.cell? ⟨b, o, none⟩ = w.cell? ⟨b, o, none⟩ := fun b o hlt => hb.cell (p := ⟨b, o, none⟩) (show b < w.heap.size by omega)
  exact ⟨Nat.le_trans hs hb.size, (k _ _ (by omega)).trans h.a0, (k _ _ (by omega)).trans h.a1, (k _ _ (by omega)).trans h.a2, (k _ _ (by omega)).trans h.a3, (k _ _ (by omega)).trans h.a4, (k _ _ (by omega)).trans h.a5,
    (k _ _ (by omega)).trans h.i0, (k _ _ (by omega)).trans h.i1, (k _ _ (by omega)).trans h.i2, (k _ _ (by omega)).trans h.i3, (k _ _ (by omega)).trans h.i4, (k _ _ (by omega)).trans h.i5, (k _ _ (by omega)).trans h.i6, (k _ _ (by omega)).trans h.b0, (k _ _ (by omega)).trans h.f0, (k _ _ (by omega)).trans h.f1, (k _ _ (by omega)).trans h.f2, (k _ _ (by omega)).trans h.f3⟩
theorem LitAt.blocks {n : Nat} {w : World} (h : LitAt n w) : BlocksAt w.heap.size w (.slice (some ⟨n + 3, 0, none⟩) 1 1) [[dI n]] := by
  have hs := h.size
  refine ⟨some ⟨n + 3, 0, none⟩, 1, rfl, Nat.le_refl _, by decide, fun i hi => ?_⟩
  obtain rfl : i = 0 := by simp at hi; omega
  refine ⟨⟨n + 3, 0, none⟩, .slice (some ⟨n + 2, 0, none⟩) 1 1, rfl, show n + 3 < w.heap.size by omega, h.b0, ?_⟩
  refine ⟨some ⟨n + 2, 0, none⟩, 1, rfl, Nat.le_refl _, by decide, fun k hk => ?_⟩
  obtain rfl : k = 0 := by simp at hk; omega
  exact ⟨⟨n + 2, 0, none⟩, rfl, show n + 2 < w.heap.size by omega, h.i0, h.i1, h.i2, h.i3, h.i4, h.i5, h.i6⟩
theorem LitAt.args {n : Nat} {w : World} (h : LitAt n w) : AllArgs w.heap.size w [[dI n]] := by
  have hs := h.size
  intro b hb k hk
  obtain rfl : b = 0 := by simp at hb; omega
  obtain rfl : k = 0 := by simp at hk; omega
  refine ⟨rfl, Nat.le_refl _, (by show 2 ≤ maxLen; decide), fun i hi => ⟨⟨n + 1, 0, none⟩, rfl, show n + 1 < w.heap.size by omega, ?_⟩⟩
  have : i = 0 ∨ i = 1 := by simp [dI] at hi; omega
  rcases this with rfl | rfl
  · exact ⟨h.a0, h.a1, h.a2⟩
  · exact ⟨h.a3, h.a4, h.a5⟩
theorem cellsInt : Try.prog.cellsOf 3 = 1 := by kernel_rfl
theorem cellsU64 : Try.prog.cellsOf 27 = 1 := by kernel_rfl
theorem cellsValue : Try.prog.cellsOf 29 = 3 := by kernel_rfl
theorem block_lt {w : World} {a : Addr} {v : Value} (h : w.cell? a = some v) : a.block < w.heap.size := by
  by_cases hl : a.block < w.heap.size
  · exact hl
  · unfold World.cell? at h
    rw [Array.getElem?_eq_none (by omega)] at h
    cases h
theorem add_pos (x : Addr) (j : Nat) (hj : j ≠ 0) : x.add j = ⟨x.block, x.off + j, none⟩ := by unfold Addr.add; rw [if_neg hj]
theorem add_zero (x : Addr) : x.add 0 = x := by unfold Addr.add; rw [if_pos rfl]
instance : Inhabited Arg := ⟨⟨0, 0, 0⟩⟩
instance : Inhabited Ins := ⟨⟨0, 0, 0, 0, 0, none, 0, 0, none, 0, 0, []⟩⟩
theorem bulk_pos {H : Type} (d : DataW H) : 1 ≤ Rows.uptoBulk d := by
  cases d
  case lit l => cases l <;> simp [Rows.uptoBulk]
  all_goals simp [Rows.uptoBulk]
theorem bulk_app {H : Type} (l r : List (DataW H)) : Rows.uptoBulkAll (l ++ r) = Rows.uptoBulkAll l + Rows.uptoBulkAll r := by
  induction l with
  | nil => simp [Rows.uptoBulkAll]
  | cons x l ih => simp only [List.cons_append, Rows.uptoBulkAll, ih]; omega
theorem bulk_sum {H : Type} (D : Nat → DataW H) (g : Nat → Nat) : ∀ n : Nat, (∀ i, i < n → g i ≤ Rows.uptoBulk (D i)) → ((List.range n).map g).sum ≤ Rows.uptoBulkAll ((List.range n).map D)
  | 0, _ => Nat.zero_le _
  | n + 1, h => by
    have ih := bulk_sum D g n (fun i hi => h i (by omega))
    have hn := h n (by omega)
    rw [List.range_succ, List.map_append, List.map_append, bulk_app, List.sum_append]
    simp [Rows.uptoBulkAll]
    omega
theorem sum_ones : ∀ n : Nat, ((List.range n).map (fun _ => (1 : Nat))).sum = n
  | 0 => rfl
  | n + 1 => by rw [List.range_succ, List.map_append, List.sum_append, sum_ones n]; rfl
theorem bulk_slice {H : Type} (e s : List (DataW H)) : Rows.uptoBulkAll e ≤ Rows.uptoBulk (.slice e s) := by simp only [Rows.uptoBulk]; omega
section
variable {H : Type} {enc : TypeId × Value → H} {W : World} {sp : Nat → Bool} {held : Bool}
/-- What an instruction's reading gives. -/
def InsOk (W : World) (d : Ins) : Prop := ArgsAt W.heap.size W d ∧ (Lit.int .i64 d.reg).wf = true ∧ ∀ i (h : i < d.args.length), (Lit.int .i64 d.args[i].n).wf = true
/-- What an argument's reading as a function gives. -/
structure FuncOk (W : World) (s0 : ByteArray) (p1 : Option Addr) (n1 c1 : Nat) (rt : Int) (p2 : Option Addr) (n2 c2 : Nat) (l : List (List Ins)) : Prop where
  blocks : BlocksAt W.heap.size W (.slice p2 n2 c2) l
  ins : ∀ b (h : b < l.length) k (hk : k < l[b].length), InsOk W l[b][k]
theorem FuncOk.args {W : World} {s0 : ByteArray} {p1 : Option Addr} {n1 c1 : Nat} {rt : Int} {p2 : Option Addr} {n2 c2 : Nat} {l : List (List Ins)} (h : FuncOk W s0 p1 n1 c1 rt p2 n2 c2 l) : AllArgs W.heap.size W l := fun b hb k hk => (h.ins b hb k hk).1
end
theorem lit_cells (w : World) (cs : Array Value) (ty : TypeId) : ∀ (j : Nat) (u : Value), cs.toList[j]? = some u → (w.alloc (.cells cs ty)).cell? ((⟨w.heap.size, 0, none⟩ : Addr).add j) = some u := by
  intro j u h
  have e : (⟨w.heap.size, 0, none⟩ : Addr).add j = ⟨w.heap.size, j, none⟩ := by
    unfold Addr.add
    by_cases hj : j = 0
    · subst hj; rfl
    · rw [if_neg hj]; simp
  rw [e, World.cell?_alloc_at _ _ _ _ rfl]
  simpa using h
theorem Past.grownRow {B : Nat} {row : Option Nat} {W w w' : World} (h : Past B W w) (g : w.grownBy w' row) (hr : ∀ j, row = some j → B ≤ j) : Past B W w' := ⟨h.1, h.2.grown g h.size hr⟩
theorem add0 (g j : Nat) : (⟨g, 0, none⟩ : Addr).add j = ⟨g, j, none⟩ := by
  unfold Addr.add
  by_cases hj : j = 0
  · subst hj; rfl
  · rw [if_neg hj]; simp
theorem flat_get {α : Type} (f : α → List Value) (m : Nat) (hf : ∀ x, (f x).length = m) (L : List α) : ∀ (i : Nat) (h : i < L.length) (j : Nat), j < m → (L.flatMap f)[i * m + j]? = (f L[i])[j]? := by
  induction L with
  | nil => intro i h; exact absurd h (Nat.not_lt_zero _)
  | cons x L ih =>
    intro i h j hj
    rw [List.flatMap_cons]
    cases i with
    | zero => rw [List.getElem?_append_left (by rw [hf]; omega)]; simp
    | succ i =>
      have e : (i + 1) * m + j = m + (i * m + j) := by rw [Nat.add_mul]; omega
      rw [List.getElem?_append_right (by rw [hf]; omega), hf, e, Nat.add_sub_cancel_left]
      exact ih i (by simpa using h) j hj
theorem below_drew {B : Nat} {W w : World} (h : Below B W w) : Below B W w.drew := ⟨h.os, h.tape, h.output, h.size, h.block⟩
/-- A function's box. -/
structure FBox (g : Nat) (s0 : ByteArray) (p1 : Option Addr) (n1 c1 : Nat) (rt : Int) (p2 : Option Addr) (n2 c2 : Nat) (w : World) : Prop where
  lt : g < w.heap.size
  f0 : w.cell? ⟨g, 0, none⟩ = some (.string s0)
  f1 : w.cell? ⟨g, 1, none⟩ = some (.slice p1 n1 c1)
  f2 : w.cell? ⟨g, 2, none⟩ = some (.int .i64 rt)
  f3 : w.cell? ⟨g, 3, none⟩ = some (.slice p2 n2 c2)
theorem FBox.below {g : Nat} {s0 : ByteArray} {p1 : Option Addr} {n1 c1 : Nat} {rt : Int} {p2 : Option Addr} {n2 c2 : Nat} {W w : World} (h : FBox g s0 p1 n1 c1 rt p2 n2 c2 W) (hb : Below W.heap.size W w) : FBox g s0 p1 n1 c1 rt p2 n2 c2 w :=
  ⟨Nat.lt_of_lt_of_le h.lt hb.size, (hb.cell (p := ⟨g, 0, none⟩) h.lt).trans h.f0, (hb.cell (p := ⟨g, 1, none⟩) h.lt).trans h.f1, (hb.cell (p := ⟨g, 2, none⟩) h.lt).trans h.f2, (hb.cell (p := ⟨g, 3, none⟩) h.lt).trans h.f3⟩
theorem FBox.alloc {g : Nat} {s0 : ByteArray} {p1 : Option Addr} {n1 c1 : Nat} {rt : Int} {p2 : Option Addr} {n2 c2 : Nat} {W : World} (h : FBox g s0 p1 n1 c1 rt p2 n2 c2 W) (o : Obj) : FBox g s0 p1 n1 c1 rt p2 n2 c2 (W.alloc o) :=
  h.below ((Below.refl _ _).alloc (Nat.le_refl _) o)
section
variable {W : World} {s0 : ByteArray} {p1 : Option Addr} {n1 c1 : Nat} {rt : Int} {p2 : Option Addr} {n2 c2 : Nat} {l : List (List Ins)}
end
end Go.Proofs.Ytpjfkmaceaikbaa
namespace Go.Proofs.Ytpjfkmaceaikbaa
open Go.RowKit

def isW (w : Int) : Bool := decide (1 ≤ w ∧ w ≤ 64)
theorem isW_iff {w : Int} : isW w = true ↔ 1 ≤ w ∧ w ≤ 64 := by simp [isW]
theorem isW_not {w : Int} : isW w = false ↔ ¬ (1 ≤ w ∧ w ≤ 64) := by simp only [isW, decide_eq_false_iff_not]

/-- 2 to the power n. -/
def pw (n : Nat) : Int := 2 ^ n
theorem pw_eq (n : Nat) : (2 : Int) ^ n = pw n := rfl
theorem pw_pos (n : Nat) : 0 < pw n := Int.pow_pos (by decide)
theorem pw_add (m n : Nat) : pw (m + n) = pw m * pw n := Int.pow_add 2 m n
theorem pw_succ (n : Nat) : pw (n + 1) = 2 * pw n := by rw [pw_add, Int.mul_comm]; rfl
theorem pw_0 : pw 0 = 1 := rfl
theorem pw_63 : pw 63 = 9223372036854775808 := by decide +kernel
theorem pw_64 : pw 64 = 18446744073709551616 := by decide +kernel
theorem pw_half {n : Nat} (h : 1 ≤ n) : pw n = 2 * pw (n - 1) := by
  obtain ⟨m, rfl⟩ : ∃ m, n = m + 1 := ⟨n - 1, by omega⟩
  exact pw_succ m
theorem pw_mono {m n : Nat} (h : m ≤ n) : pw m ≤ pw n := by
  obtain ⟨d, rfl⟩ : ∃ d, n = m + d := ⟨n - m, by omega⟩
  rw [pw_add]
  have h1 := pw_pos m
  have h2 := pw_pos d
  have := Int.mul_le_mul_of_nonneg_left (show 1 ≤ pw d by omega) (show 0 ≤ pw m by omega)
  omega
theorem pw_le64 {n : Nat} (h : n ≤ 64) : pw n ≤ 18446744073709551616 := pw_64 ▸ pw_mono h
theorem pw_le63 {n : Nat} (h : n ≤ 63) : pw n ≤ 9223372036854775808 := pw_63 ▸ pw_mono h
theorem pw_dvd64 {n : Nat} (h : n ≤ 64) : pw n * pw (64 - n) = 18446744073709551616 := by
  rw [← pw_add, show n + (64 - n) = 64 by omega]; exact pw_64
theorem pw_dvd63 {n : Nat} (h1 : 1 ≤ n) (h : n ≤ 64) : pw (n - 1) * pw (64 - n) = 9223372036854775808 := by
  rw [← pw_add, show n - 1 + (64 - n) = 63 by omega]; exact pw_63

def msk (w : Int) : Int := if isW w then pw w.toNat - 1 else 0
theorem msk_in {w : Int} (h1 : 1 ≤ w) (h2 : w ≤ 64) : msk w = pw w.toNat - 1 := by rw [msk, isW_iff.2 ⟨h1, h2⟩]; rfl
theorem msk_raw (w : Int) (h1 : 1 ≤ w) (h2 : w ≤ 64) : 18446744073709551615 / 2 ^ (64 - w).toNat = msk w := by
  rw [msk_in h1 h2, show (64 - w).toNat = 64 - w.toNat by omega, pw_eq]
  have h := pw_dvd64 (n := w.toNat) (by omega)
  have hp := pw_pos (64 - w.toNat)
  have hq := pw_pos w.toNat
  generalize pw w.toNat = N at *
  generalize pw (64 - w.toNat) = K at *
  have e : (18446744073709551615 : Int) = (K - 1) + K * (N - 1) := by rw [Int.mul_sub, Int.mul_comm K N, h]; omega
  rw [e, Int.add_mul_ediv_left _ _ (by omega), Int.ediv_eq_zero_of_lt (by omega) (by omega)]; omega

/-- A number of width n, read with a sign. -/
def sg (n : Nat) (x : Int) : Int := if x < pw (n - 1) then x else x - pw n
/-- What Signed answers. -/
def sgn (w v : Int) : Int := if isW w then sg w.toNat (v % pw w.toNat) else 0
theorem sgn_in {w : Int} (v : Int) (h1 : 1 ≤ w) (h2 : w ≤ 64) : sgn w v = sg w.toNat (v % pw w.toNat) := by rw [sgn, isW_iff.2 ⟨h1, h2⟩]; rfl

theorem u64w (z : Int) : IntKind.u64.wrap z = z % 18446744073709551616 := by simp [IntKind.wrap, IntKind.bits, IntKind.signed]
theorem i64w (z : Int) : wrap64 z = (z + 9223372036854775808) % 18446744073709551616 - 9223372036854775808 := by rw [← IntKind.wrap_i64, IntWalk.i64_left]

theorem sg_shift {n : Nat} (h1 : 1 ≤ n) (h2 : n ≤ 64) (x : Int) (hx : 0 ≤ x) (hx' : x < pw n) :
    wrap64 (pw (64 - n) * x) = pw (64 - n) * sg n x := by
  have h := pw_dvd64 h2
  have g := pw_dvd63 h1 h2
  have hh := pw_half h1
  have hp := pw_pos (64 - n)
  rw [i64w]
  unfold sg
  rw [Int.mul_comm] at h g
  generalize pw (64 - n) = K at *
  generalize pw n = N at *
  generalize pw (n - 1) = H at *
  split
  · have a := Int.mul_lt_mul_of_pos_left (show x < H by assumption) hp
    have b := Int.mul_nonneg (show 0 ≤ K by omega) hx
    omega
  · have a := Int.mul_le_mul_of_nonneg_left (show H ≤ x by omega) (show 0 ≤ K by omega)
    have b := Int.mul_lt_mul_of_pos_left hx' hp
    rw [Int.mul_sub]
    omega

theorem sgn_raw (w v : Int) (h1 : 1 ≤ w) (h2 : w ≤ 64) :
    wrap64 (IntKind.u64.wrap (v * 2 ^ (64 - w).toNat)) / 2 ^ (64 - w).toNat = sgn w v := by
  rw [sgn_in v h1 h2, show (64 - w).toNat = 64 - w.toNat by omega, pw_eq]
  have h := pw_dvd64 (n := w.toNat) (by omega)
  have hp := pw_pos (64 - w.toNat)
  have hq := pw_pos w.toNat
  rw [u64w, ← h, Int.mul_comm v, Int.mul_comm (pw w.toNat), Int.mul_emod_mul_of_pos _ _ hp,
    sg_shift (by omega) (by omega) _ (Int.emod_nonneg _ (by omega)) (Int.emod_lt_of_pos _ hq)]
  exact Int.mul_ediv_cancel_left _ (by omega)

theorem sg_bd {n : Nat} (h1 : 1 ≤ n) {x : Int} (hx : 0 ≤ x) (hx' : x < pw n) : -pw (n - 1) ≤ sg n x ∧ sg n x < pw (n - 1) := by
  have hh := pw_half h1
  unfold sg; split <;> omega
theorem sgn_bd (w v : Int) : -9223372036854775808 ≤ sgn w v ∧ sgn w v ≤ 9223372036854775807 := by
  unfold sgn; split
  · rename_i h
    obtain ⟨h1, h2⟩ := isW_iff.1 h
    have hq := pw_pos w.toNat
    have := sg_bd (n := w.toNat) (by omega) (Int.emod_nonneg v (show pw w.toNat ≠ 0 by omega)) (Int.emod_lt_of_pos v hq)
    have := pw_le63 (n := w.toNat - 1) (by omega)
    omega
  · omega

def flg (op : Int) : Int :=
  if op = 1 ∨ op = 2 ∨ op = 3 ∨ op = 11 then 3 else if op = 4 ∨ op = 5 ∨ op = 12 ∨ op = 13 then 4 else 0

theorem ret_two {k k' : IntKind} {a b c d : Int} (h : a = b) (h' : c = d) : Ending.returned (.tuple #[.int k a, .int k' c]) = .returned (.tuple #[.int k b, .int k' d]) := by rw [h, h']

/-- How far a number is from 0. -/
def mag (z : Int) : Int := if z < 0 then -z else z
theorem neg_raw (s : Int) (h : -9223372036854775808 ≤ s) (h' : s < 0) : IntKind.u64.wrap (-IntKind.u64.wrap s) = mag s := by
  rw [u64w, u64w, mag, if_pos h']; omega
theorem mag_raw (w v : Int) (h1 : 1 ≤ w) (h2 : w ≤ 64) (hv : 0 ≤ v) (hv' : v < pw w.toNat) (hs : ¬ sgn w v < 0) : v = mag (sgn w v) := by
  rw [mag, if_neg hs]
  rw [sgn_in v h1 h2, Int.emod_eq_of_lt hv hv'] at hs ⊢
  have := pw_half (n := w.toNat) (by omega)
  unfold sg at *
  split at hs <;> simp_all
  omega
theorem exceeds_raw (a b l : Int) (h : 1 ≤ a) : (a != 0 && decide (l / a < b)) = decide (l < a * b) := by
  have e : (a != 0) = true := by simp; omega
  rw [e, Bool.true_and]
  congr 1
  rw [Int.mul_comm]
  exact propext (Int.ediv_lt_iff_lt_mul (by omega))

theorem wraps_u64 (n : Int) (h₀ : 0 ≤ n) (h₁ : n < 2 ^ 64) : IntKind.u64.wrap n = n := by rw [u64w]; omega
theorem and_msk (w z : Int) (h1 : 1 ≤ w) (h2 : w ≤ 64) (hz : 0 ≤ z) (hz' : z < 18446744073709551616) : bits .and .u64 z (msk w) = z % pw w.toNat := by
  rw [msk_in h1 h2]
  exact bits_mask .u64 64 (by decide) wraps_u64 w.toNat (by omega) z hz (by omega)
theorem and_msk_wrap (w z : Int) (h1 : 1 ≤ w) (h2 : w ≤ 64) : bits .and .u64 (IntKind.u64.wrap z) (msk w) = z % pw w.toNat := by
  have := u64w z
  rw [and_msk w _ h1 h2 (by omega) (by omega), this]
  exact Int.emod_emod_of_dvd _ ⟨_, (pw_dvd64 (n := w.toNat) (by omega)).symm⟩
theorem sg_nz {n : Nat} (h1 : 1 ≤ n) {b : Int} (_hb : 0 ≤ b) (hb' : b < pw n) (h0 : b ≠ 0) : ¬ sg n b = 0 := by
  have hh := pw_half h1
  unfold sg; split <;> omega
theorem wrap64_mod {n : Nat} (h2 : n ≤ 64) (z : Int) : wrap64 z % pw n = z % pw n := by
  have hd := pw_dvd64 h2
  obtain ⟨q, hq⟩ : ∃ q : Int, wrap64 z = z + 18446744073709551616 * q := ⟨-((z + 9223372036854775808) / 18446744073709551616), by rw [i64w]; omega⟩
  rw [hq, ← hd, Int.mul_assoc, Int.add_mul_emod_self_left]
theorem quo_raw {w z : Int} (h1 : 1 ≤ w) (h2 : w ≤ 64) : bits .and .u64 (IntKind.u64.wrap (wrap64 z)) (msk w) = z % pw w.toNat := by
  rw [and_msk_wrap _ _ h1 h2, wrap64_mod (by omega)]
/-- What a comparison tells of two numbers, and of the two read with a sign. -/
def cmpB (op a b s t : Int) : Bool :=
  if op = 14 then a == b else if op = 15 then a != b else if op = 16 then decide (a < b) else if op = 17 then decide (a ≤ b) else if op = 18 then decide (s < t) else decide (s ≤ t)

/-- How an operation without flags ends, of two numbers of width n. -/
def plE (n : Nat) (op x y : Int) : Int :=
  if op = 4 ∨ op = 6 then (if y = 0 then 2 else 0)
  else if op = 5 ∨ op = 7 then (if y = 0 ∨ (x = pw (n - 1) ∧ y = pw n - 1) then 2 else 0)
  else if op = 11 ∨ op = 12 ∨ op = 13 then (if (n : Int) ≤ y then 1 else 0)
  else 0
/-- The number with which it ends, if it ends with one. -/
def plV (n : Nat) (op x y : Int) : Int :=
  if op = 1 then (x + y) % pw n else if op = 2 then (x - y) % pw n else if op = 3 then (x * y) % pw n
  else if op = 4 then x / y else if op = 5 then (sg n x).tdiv (sg n y) % pw n else if op = 6 then x % y else if op = 7 then (sg n x).tmod (sg n y) % pw n
  else if op = 8 then bits .and .u64 x y else if op = 9 then bits .or .u64 x y else if op = 10 then bits .xor .u64 x y
  else if op = 11 then x * pw y.toNat % pw n else if op = 12 then x / pw y.toNat else if op = 13 then sg n x / pw y.toNat % pw n
  else if cmpB op x y (sg n x) (sg n y) then 1 else 0
def plR (n : Nat) (op x y : Int) : Int := if plE n op x y = 0 then plV n op x y else 0
/-- The exact sum, difference, product, or number shifted to the left. -/
def ex (op x y : Int) : Int := if op = 1 then x + y else if op = 2 then x - y else if op = 3 then x * y else x * pw y.toNat
/-- Is the exact result no number of the width? -/
def wrB (n : Nat) (op x y : Int) : Bool := !decide (0 ≤ ex op x y ∧ ex op x y < pw n)
/-- Is the exact result of the numbers read with a sign no such number? -/
def wsB (n : Nat) (op x y : Int) : Bool :=
  !decide (-pw (n - 1) ≤ ex op (sg n x) (if op = 11 then y else sg n y) ∧ ex op (sg n x) (if op = 11 then y else sg n y) < pw (n - 1))
/-- Is there a rest? -/
def lrB (n : Nat) (op x y : Int) : Bool :=
  if op = 4 then x % y != 0 else if op = 5 then (sg n x).tmod (sg n y) != 0 else x % pw y.toNat != 0
theorem wrB1_raw {w a b : Int} (hm : msk w = pw w.toNat - 1) (ha : 0 ≤ a) (hb : 0 ≤ b) : decide (msk w - a < b) = wrB w.toNat 1 a b := by
  rw [hm, Bool.eq_iff_iff]; simp only [wrB, ex, Bool.not_eq_true', decide_eq_true_eq, decide_eq_false_iff_not, if_true]; omega
theorem wrB2_raw {w a b : Int} (_ha : 0 ≤ a) (ha' : a < pw w.toNat) (hb : 0 ≤ b) : decide (a < b) = wrB w.toNat 2 a b := by
  rw [Bool.eq_iff_iff]; simp [wrB, ex]; omega
theorem wrB3_raw {w a b : Int} (hm : msk w = pw w.toNat - 1) (ha : 0 ≤ a) (hb : 0 ≤ b) : decide (msk w < a * b) = wrB w.toNat 3 a b := by
  have := Int.mul_nonneg ha hb
  rw [hm, Bool.eq_iff_iff]; simp [wrB, ex]; omega
theorem wrB11_raw {w a b : Int} (hm : msk w = pw w.toNat - 1) (ha : 0 ≤ a) : decide (msk w / 2 ^ b.toNat < a) = wrB w.toNat 11 a b := by
  have hp := pw_pos b.toNat
  have := Int.mul_nonneg ha (show 0 ≤ pw b.toNat by omega)
  rw [hm, Bool.eq_iff_iff, pw_eq]; simp [wrB, ex, Int.ediv_lt_iff_lt_mul hp]; omega
theorem lrB_raw {n : Nat} {op a b : Int} (ho : op = 12 ∨ op = 13) (ha : 0 ≤ a) (ha' : a ≤ 18446744073709551615) : (IntKind.u64.wrap (a / 2 ^ b.toNat * 2 ^ b.toNat) != a) = lrB n op a b := by
  have hp := pw_pos b.toNat
  have h1 := Int.emod_add_mul_ediv a (pw b.toNat)
  have h2 := Int.emod_nonneg a (show pw b.toNat ≠ 0 by omega)
  have h3 : 0 ≤ pw b.toNat * (a / pw b.toNat) := Int.mul_nonneg (by omega) (Int.ediv_nonneg ha (by omega))
  rw [pw_eq, u64w, Int.mul_comm]
  have e : (pw b.toNat * (a / pw b.toNat)) % 18446744073709551616 = a - a % pw b.toNat := by omega
  rw [e, Bool.eq_iff_iff]
  rcases ho with rfl | rfl <;> simp [lrB] <;> omega

theorem add_mod {M x y : Int} (hx : 0 ≤ x) (hx' : x < M) (hy : 0 ≤ y) (hy' : y < M) : ((x + y) % M = x + y ∧ x + y < M) ∨ ((x + y) % M = x + y - M ∧ M ≤ x + y) := by
  by_cases h : x + y < M
  · exact .inl ⟨Int.emod_eq_of_lt (by omega) h, h⟩
  · refine .inr ⟨?_, by omega⟩
    rw [← Int.sub_emod_right, Int.emod_eq_of_lt (by omega) (by omega)]
theorem sub_mod {M x y : Int} (hx : 0 ≤ x) (hx' : x < M) (hy : 0 ≤ y) (hy' : y < M) : ((x - y) % M = x - y ∧ y ≤ x) ∨ ((x - y) % M = x - y + M ∧ x < y) := by
  by_cases h : y ≤ x
  · exact .inl ⟨Int.emod_eq_of_lt (by omega) (by omega), h⟩
  · refine .inr ⟨?_, by omega⟩
    rw [← Int.add_emod_right, Int.emod_eq_of_lt (by omega) (by omega)]
theorem sgn_wrap {w z : Int} (h1 : 1 ≤ w) (h2 : w ≤ 64) : sgn w (IntKind.u64.wrap z) = sg w.toNat (z % pw w.toNat) := by
  rw [sgn_in _ h1 h2, u64w, Int.emod_emod_of_dvd _ ⟨_, (pw_dvd64 (n := w.toNat) (by omega)).symm⟩]
theorem sgn_red {w a : Int} (h1 : 1 ≤ w) (h2 : w ≤ 64) (ha : 0 ≤ a) (ha' : a < pw w.toNat) : sgn w a = sg w.toNat a := by
  rw [sgn_in _ h1 h2, Int.emod_eq_of_lt ha ha']

theorem ws1_raw {w a b : Int} (h1 : 1 ≤ w) (h2 : w ≤ 64) (ha : 0 ≤ a) (ha' : a < pw w.toNat) (hb : 0 ≤ b) (hb' : b < pw w.toNat) :
    ((decide (sgn w a < 0) == decide (sgn w b < 0)) && (decide (sgn w (IntKind.u64.wrap (a + b)) < 0) != decide (sgn w a < 0))) = wsB w.toNat 1 a b := by
  have hh := pw_half (n := w.toNat) (by omega)
  have hc := add_mod ha ha' hb hb'
  rw [sgn_wrap h1 h2, sgn_red h1 h2 ha ha', sgn_red h1 h2 hb hb', Bool.eq_iff_iff]
  generalize (a + b) % pw w.toNat = r at *
  simp only [wsB, ex, Bool.and_eq_true, beq_iff_eq, bne_iff_ne, ne_eq, decide_eq_decide, Bool.not_eq_true', decide_eq_false_iff_not, if_true, show ¬ (1 : Int) = 11 by decide, if_false]
  unfold sg
  generalize pw w.toNat = M at *
  generalize pw (w.toNat - 1) = H at *
  repeat' split
  all_goals omega
theorem ws2_raw {w a b : Int} (h1 : 1 ≤ w) (h2 : w ≤ 64) (ha : 0 ≤ a) (ha' : a < pw w.toNat) (hb : 0 ≤ b) (hb' : b < pw w.toNat) :
    ((decide (sgn w a < 0) != decide (sgn w b < 0)) && (decide (sgn w (IntKind.u64.wrap (a - b)) < 0) != decide (sgn w a < 0))) = wsB w.toNat 2 a b := by
  have hh := pw_half (n := w.toNat) (by omega)
  have hc := sub_mod ha ha' hb hb'
  rw [sgn_wrap h1 h2, sgn_red h1 h2 ha ha', sgn_red h1 h2 hb hb', Bool.eq_iff_iff]
  generalize (a - b) % pw w.toNat = r at *
  simp only [wsB, ex, Bool.and_eq_true, bne_iff_ne, ne_eq, decide_eq_decide, Bool.not_eq_true', decide_eq_false_iff_not, if_true, show ¬ (2 : Int) = 11 by decide, show ¬ (2 : Int) = 1 by decide, if_false]
  unfold sg
  generalize pw w.toNat = M at *
  generalize pw (w.toNat - 1) = H at *
  repeat' split
  all_goals omega
theorem ws3_raw {w a b : Int} (h1 : 1 ≤ w) (h2 : w ≤ 64) (ha : 0 ≤ a) (ha' : a < pw w.toNat) (hb : 0 ≤ b) (hb' : b < pw w.toNat) :
    decide ((if decide (sgn w a < 0) = decide (sgn w b < 0) then pw (w.toNat - 1) - 1 else pw (w.toNat - 1)) < mag (sgn w a) * mag (sgn w b)) = wsB w.toNat 3 a b := by
  rw [sgn_red h1 h2 ha ha', sgn_red h1 h2 hb hb', Bool.eq_iff_iff]
  have hp := pw_pos (w.toNat - 1)
  simp only [wsB, ex, Bool.not_eq_true', decide_eq_true_eq, decide_eq_false_iff_not, if_true, show ¬ (3 : Int) = 11 by decide, show ¬ (3 : Int) = 1 by decide, show ¬ (3 : Int) = 2 by decide, if_false]
  generalize sg w.toNat a = s
  generalize sg w.toNat b = t
  generalize pw (w.toNat - 1) = H at *
  unfold mag
  by_cases hs : s < 0 <;> by_cases ht : t < 0 <;> simp only [hs, ht, if_true, if_false, decide_true, decide_false, Bool.true_eq_false, Bool.false_eq_true]
  · have := Int.mul_pos_of_neg_of_neg hs ht
    rw [Int.neg_mul_neg]; omega
  · have := Int.mul_nonneg (show 0 ≤ -s by omega) (show 0 ≤ t by omega)
    rw [Int.neg_mul] at *; omega
  · have := Int.mul_nonneg (show 0 ≤ s by omega) (show 0 ≤ -t by omega)
    rw [Int.mul_neg] at *; omega
  · have := Int.mul_nonneg (show 0 ≤ s by omega) (show 0 ≤ t by omega)
    omega
theorem sg_uniq {n : Nat} (h1 : 1 ≤ n) {z s : Int} (e : ∃ q, z = s + pw n * q) (hs : -pw (n - 1) ≤ s) (hs' : s < pw (n - 1)) : sg n (z % pw n) = s := by
  have hh := pw_half h1
  obtain ⟨q, rfl⟩ := e
  rw [Int.add_mul_emod_self_left]
  by_cases h0 : 0 ≤ s
  · rw [Int.emod_eq_of_lt h0 (by omega)]; unfold sg; rw [if_pos hs']
  · rw [← Int.add_emod_right, Int.emod_eq_of_lt (by omega) (by omega)]; unfold sg; rw [if_neg (by omega)]; omega
theorem sg_cong {n : Nat} (x : Int) : ∃ q, x = sg n x + pw n * q := by
  unfold sg; split
  · exact ⟨0, by omega⟩
  · exact ⟨1, by omega⟩
theorem sg_modcong {n : Nat} (x : Int) : ∃ q, sg n (x % pw n) = x + pw n * q := by
  obtain ⟨q, hq⟩ := sg_cong (n := n) (x % pw n)
  have := Int.emod_add_mul_ediv x (pw n)
  exact ⟨-(x / pw n) - q, by rw [Int.mul_sub, Int.mul_neg]; omega⟩
theorem ws11_raw {w a b : Int} (h1 : 1 ≤ w) (h2 : w ≤ 64) (ha : 0 ≤ a) (ha' : a < pw w.toNat) (_hb : 0 ≤ b) (hb' : b < w) :
    (sgn w (IntKind.u64.wrap (a * 2 ^ b.toNat)) / 2 ^ b.toNat != sgn w a) = wsB w.toNat 11 a b := by
  rw [sgn_wrap h1 h2, sgn_red h1 h2 ha ha', Bool.eq_iff_iff]
  simp only [wsB, ex, pw_eq, bne_iff_ne, ne_eq, Bool.not_eq_true', decide_eq_false_iff_not, if_true, show ¬ (11 : Int) = 1 by decide, show ¬ (11 : Int) = 2 by decide, show ¬ (11 : Int) = 3 by decide, if_false]
  have hp := pw_pos b.toNat
  refine not_congr ⟨fun h => ?_, fun h => ?_⟩
  · obtain ⟨q, hq⟩ := sg_modcong (n := w.toNat) (a * pw b.toNat)
    obtain ⟨q', hq'⟩ := sg_cong (n := w.toNat) a
    have hM : pw w.toNat = pw b.toNat * pw (w.toNat - b.toNat) := by rw [← pw_add]; congr 1; omega
    have hbd := sg_bd (n := w.toNat) (by omega) (Int.emod_nonneg (a * pw b.toNat) (show pw w.toNat ≠ 0 by have := pw_pos w.toNat; omega)) (Int.emod_lt_of_pos _ (pw_pos w.toNat))
    generalize sg w.toNat (a * pw b.toNat % pw w.toNat) = t at *
    have ht : t = pw b.toNat * (a + pw (w.toNat - b.toNat) * q) := by rw [hq, hM, Int.mul_add, Int.mul_comm a, Int.mul_assoc]
    have : t / pw b.toNat = a + pw (w.toNat - b.toNat) * q := by rw [ht, Int.mul_ediv_cancel_left _ (by omega)]
    rw [← h, this, Int.mul_comm, ← ht]
    exact hbd
  · rw [sg_uniq (n := w.toNat) (by omega) ?_ h.1 h.2, Int.mul_ediv_cancel _ (by omega)]
    obtain ⟨q, hq⟩ := sg_cong (n := w.toNat) a
    generalize sg w.toNat a = s at *
    exact ⟨q * pw b.toNat, by rw [hq, Int.add_mul, Int.mul_assoc]⟩
/-- Does a flag make poison of it? -/
def brB (n : Nat) (op fl x y : Int) : Bool :=
  (decide (fl = 2 ∨ fl = 3) && wrB n op x y) || (decide (fl = 1 ∨ fl = 3) && wsB n op x y) || (decide (fl = 4) && lrB n op x y)
/-- How an operation with flags ends, of two numbers of width n; the number. -/
def aplE (n : Nat) (op fl x y : Int) : Int := if plE n op x y = 0 then (if brB n op fl x y then 1 else 0) else plE n op x y
def aplR (n : Nat) (op fl x y : Int) : Int := if aplE n op fl x y = 0 then plV n op x y else 0
theorem plE_lt {w op x y : Int} (h1 : 1 ≤ w) (ho : op = 11 ∨ op = 12 ∨ op = 13) (h : plE w.toNat op x y = 0) : y < w := by
  have : ((w.toNat : Nat) : Int) = w := by omega
  rcases ho with rfl | rfl | rfl <;> simp [plE] at h <;> omega
theorem plE_nz {n : Nat} {op x y : Int} (ho : op = 4 ∨ op = 5) (h : plE n op x y = 0) : y ≠ 0 := by
  rcases ho with rfl | rfl <;> rintro rfl <;> simp [plE] at h
/-- Is there such a conversion; the number that it makes. -/
def cvB (op f t : Int) : Bool := isW f && isW t && ((decide (op = 20) && decide (f < t)) || (decide (op = 21) && decide (f < t)) || (decide (op = 22) && decide (t < f)))
def cvV (op f t v : Int) : Int := if cvB op f t then (if op = 20 then v % pw f.toNat else if op = 21 then sgn f v % pw t.toNat else v % pw t.toNat) else 0
end Go.Proofs.Ytpjfkmaceaikbaa
namespace Go.Proofs.Ytpjfkmaceaikbaa
open Go.RowKit
set_option linter.unusedVariables false
set_option linter.unusedSimpArgs false

theorem quiet_left {P : Program} {f : FuncId} {args : Array Value} {w : World} {n : Nat} {v : Value}
    (h : Calls P f args (w.drewN n) fun e w' => e = .returned v ∧ w.drewN n = w') : Calls P f args (w.drewN n) fun e w'' => e = .returned v ∧ ∃ m, w'' = w.drewN m :=
  h.mono fun _ _ ⟨he, hm⟩ => ⟨he, n, hm.symm⟩
theorem isWidth_any (w : Int) (wd : World) :
    Calls Try.prog 57 #[.int .i64 w] wd fun e w' => e = .returned (.bool (isW w)) ∧ wd = w' := by
  by_cases h1 : 1 ≤ w <;> by_cases h2 : w ≤ 64
  all_goals
    go_enter Try.func57, Try.ntmps57
    go_wp2
    go_ret
    exact ⟨by simp [isW, h1, h2], rfl⟩

theorem Mask_any (w : Int) (wd : World) :
    Calls Try.prog 38 #[.int .i64 w] wd fun e w' => e = .returned (.int .u64 (msk w)) ∧ wd = w' := by
  by_cases hw : isW w = true
  · obtain ⟨h1, h2⟩ := isW_iff.1 hw
    go_enter Try.func38, Try.ntmps38
    go_wp2_with (go_at_call 57; refine (isWidth_any _ _).mono ?_; rintro e w' ⟨rfl, rfl⟩)
    go_ret
    exact ⟨ret_int (msk_raw w h1 h2), rfl⟩
  · have hw' : isW w = false := by simpa using hw
    clear hw
    go_enter Try.func38, Try.ntmps38
    go_wp2_with (go_at_call 57; refine (isWidth_any _ _).mono ?_; rintro e w' ⟨rfl, rfl⟩)
    go_ret
    exact ⟨by simp [msk, hw'], rfl⟩

theorem Signed_any (w v : Int) (wd : World) :
    Calls Try.prog 63 #[.int .i64 w, .int .u64 v] wd fun e w' => e = .returned (.int .i64 (sgn w v)) ∧ wd = w' := by
  by_cases hw : isW w = true
  · obtain ⟨h1, h2⟩ := isW_iff.1 hw
    go_enter Try.func63, Try.ntmps63
    go_wp2_with (go_at_call 57; refine (isWidth_any _ _).mono ?_; rintro e w' ⟨rfl, rfl⟩)
    go_ret
    exact ⟨ret_int (sgn_raw w v h1 h2), rfl⟩
  · have hw' : isW w = false := by simpa using hw
    clear hw
    go_enter Try.func63, Try.ntmps63
    go_wp2_with (go_at_call 57; refine (isWidth_any _ _).mono ?_; rintro e w' ⟨rfl, rfl⟩)
    go_ret
    exact ⟨by simp [sgn, hw'], rfl⟩

theorem Flags_any (op : Int) (wd : World) :
    Calls Try.prog 35 #[.int .i64 op] wd fun e w' => e = .returned (.int .i64 (flg op)) ∧ wd = w' := by
  go_enter Try.func35, Try.ntmps35
  go_wp2
  all_goals
    go_ret
    refine ⟨ret_int ?_, rfl⟩
    show _ = flg op
    simp_all [flg]

theorem leastSigned_any (w : Int) (wd : World) (h1 : 1 ≤ w) (h2 : w ≤ 64) :
    Calls Try.prog 95 #[.int .i64 w] wd fun e w' => e = .returned (.int .u64 (pw (w.toNat - 1))) ∧ wd = w' := by
  go_enter Try.func95, Try.ntmps95
  go_wp2
  go_ret
  refine ⟨ret_int ?_, rfl⟩
  show IntKind.u64.wrap (2 ^ (w.toNat - 1)) = _
  have := pw_le63 (n := w.toNat - 1) (by omega)
  have := pw_pos (w.toNat - 1)
  rw [u64w, pw_eq]
  omega
theorem isBelow_any (w v : Int) (wd : World) :
    Calls Try.prog 97 #[.int .i64 w, .int .u64 v] wd fun e w' => e = .returned (.bool (decide (sgn w v < 0))) ∧ wd = w' := by
  go_enter Try.func97, Try.ntmps97
  go_wp2_with (go_at_call 63; refine (Signed_any _ _ _).mono ?_; rintro e w' ⟨rfl, rfl⟩)
  go_ret
  exact ⟨ret_bool rfl, rfl⟩

theorem size_any (w v : Int) (wd : World) (h1 : 1 ≤ w) (h2 : w ≤ 64) (hv : 0 ≤ v) (hv' : v < pw w.toNat) :
    Calls Try.prog 98 #[.int .i64 w, .int .u64 v] wd fun e w' => e = .returned (.int .u64 (mag (sgn w v))) ∧ wd = w' := by
  have hb := sgn_bd w v
  by_cases hs : sgn w v < 0
  · go_enter Try.func98, Try.ntmps98
    go_wp2_with (first | (go_at_call 97; refine (isBelow_any _ _ _).mono ?_; rintro e w' ⟨rfl, rfl⟩) | (go_at_call 63; refine (Signed_any _ _ _).mono ?_; rintro e w' ⟨rfl, rfl⟩))
    go_ret
    exact ⟨ret_int (neg_raw _ hb.1 hs), rfl⟩
  · go_enter Try.func98, Try.ntmps98
    go_wp2_with (go_at_call 97; refine (isBelow_any _ _ _).mono ?_; rintro e w' ⟨rfl, rfl⟩)
    go_ret
    exact ⟨ret_int (mag_raw w v h1 h2 hv hv' (by omega)), rfl⟩

theorem exceeds_any (a b l : Int) (wd : World) (ha : 0 ≤ a) (hb : 0 ≤ b) (hl : 0 ≤ l) (hl' : l < 18446744073709551616) :
    Calls Try.prog 96 #[.int .u64 a, .int .u64 b, .int .u64 l] wd fun e w' => e = .returned (.bool (decide (l < a * b))) ∧ wd = w' := by
  by_cases h0 : a = 0
  · subst h0
    go_enter Try.func96, Try.ntmps96
    go_wp2
    go_ret
    exact ⟨ret_bool (by simp; omega), rfl⟩
  · have h0' : (a == 0) = false := by simpa using h0
    have h1 : 1 ≤ a := by omega
    go_enter Try.func96, Try.ntmps96
    go_wp2
    go_ret
    exact ⟨ret_bool (exceeds_raw a b l h1), rfl⟩
theorem divide_any (op a b : Int) (wd : World) (ho : op = 4 ∨ op = 6) (ha : 0 ≤ a) (hb : 0 ≤ b) (ha' : a < 18446744073709551616) (hb' : b < 18446744073709551616) :
    Calls Try.prog 85 #[.int .i64 op, .int .u64 a, .int .u64 b] wd fun e w' => e = .returned (.tuple #[.int .u64 (if b = 0 then 0 else if op = 4 then a / b else a % b), .int .i64 (if b = 0 then 2 else 0)]) ∧ wd = w' := by
  by_cases h0 : b = 0
  · subst h0
    go_enter Try.func85, Try.ntmps85
    go_wp2
    go_ret2
    exact ⟨ret_two rfl rfl, rfl⟩
  · have h1 : 1 ≤ b := by omega
    rcases ho with rfl | rfl
    all_goals
      go_enter Try.func85, Try.ntmps85
      go_wp2
      go_ret2
      refine ⟨ret_two ?_ ?_, rfl⟩
      · simp
      · simp

theorem divideSigned_zero (op w a : Int) (wd : World) (h1 : 1 ≤ w) (h2 : w ≤ 64) :
    Calls Try.prog 86 #[.int .i64 op, .int .i64 w, .int .u64 a, .int .u64 0] wd fun e w' => e = .returned (.tuple #[.int .u64 0, .int .i64 2]) ∧ wd = w' := by
  go_enter Try.func86, Try.ntmps86
  go_wp2_with (first | (go_at_call 95; refine (leastSigned_any _ _ h1 h2).mono ?_; rintro e w' ⟨rfl, rfl⟩) | (go_at_call 38; refine (Mask_any _ _).mono ?_; rintro e w' ⟨rfl, rfl⟩))
  go_ret2
  exact ⟨ret_two rfl rfl, rfl⟩
theorem divideSigned_over (op w a b : Int) (wd : World) (h1 : 1 ≤ w) (h2 : w ≤ 64) (ha : a = pw (w.toNat - 1)) (hb : b = msk w) (h0 : (msk w == 0) = false) :
    Calls Try.prog 86 #[.int .i64 op, .int .i64 w, .int .u64 a, .int .u64 b] wd fun e w' => e = .returned (.tuple #[.int .u64 0, .int .i64 2]) ∧ wd = w' := by
  subst ha; subst hb
  go_enter Try.func86, Try.ntmps86
  go_wp2_with (first | (go_at_call 95; refine (leastSigned_any _ _ h1 h2).mono ?_; rintro e w' ⟨rfl, rfl⟩) | (go_at_call 38; refine (Mask_any _ _).mono ?_; rintro e w' ⟨rfl, rfl⟩))
  go_ret2
  exact ⟨ret_two rfl rfl, rfl⟩

theorem divideSigned_quo (w a b : Int) (wd : World) (h1 : 1 ≤ w) (h2 : w ≤ 64) (ha : 0 ≤ a) (ha' : a < pw w.toNat) (hb : 0 ≤ b) (hb' : b < pw w.toNat) (h0 : b ≠ 0) (hn : ¬ (a = pw (w.toNat - 1) ∧ b = msk w)) :
    Calls Try.prog 86 #[.int .i64 5, .int .i64 w, .int .u64 a, .int .u64 b] wd fun e w' => e = .returned (.tuple #[.int .u64 ((sg w.toNat a).tdiv (sg w.toNat b) % pw w.toNat), .int .i64 0]) ∧ ∃ n, w' = wd.drewN n := by
  have ea : sg w.toNat a = sgn w a := by rw [sgn_in _ h1 h2, Int.emod_eq_of_lt ha ha']
  have eb : sg w.toNat b = sgn w b := by rw [sgn_in _ h1 h2, Int.emod_eq_of_lt hb hb']
  have h3 : ¬ sgn w b = 0 := by rw [← eb]; exact sg_nz (by omega) hb hb' h0
  rw [ea, eb]
  have h0' : (b == 0) = false := by simpa using h0
  clear ea eb ha ha' hb hb' h0
  have fin : Hid (∀ n, Calls Try.prog 38 #[.int .i64 w] (wd.drewN n) fun e w'' => e = .returned (.int .u64 (msk w)) ∧ ∃ m, w'' = wd.drewN m) := fun n => quiet_left (Mask_any w _)
  by_cases hq : a = pw (w.toNat - 1)
  · have hm : (b == msk w) = false := by simp only [beq_eq_false_iff_ne]; exact fun h => hn ⟨hq, h⟩
    subst hq
    clear hn
    go_enter Try.func86, Try.ntmps86
    go_wp2_with (first | (go_at_call 95; refine (leastSigned_any _ _ h1 h2).mono ?_; rintro e w' ⟨rfl, rfl⟩) | (go_at_call 38; refine (Mask_any _ _).mono ?_; rintro e w' ⟨rfl, rfl⟩) | (go_at_call 63; refine (Signed_any _ _ _).mono ?_; rintro e w' ⟨rfl, rfl⟩))
    go_quiet ((go_at_call 38; exact fin.out _))
    go_wp2
    go_ret2
    exact ⟨ret_two (quo_raw h1 h2) rfl, _, rfl⟩
  · have hq' : (a == pw (w.toNat - 1)) = false := by simpa using hq
    clear hn hq
    go_enter Try.func86, Try.ntmps86
    go_wp2_with (first | (go_at_call 95; refine (leastSigned_any _ _ h1 h2).mono ?_; rintro e w' ⟨rfl, rfl⟩) | (go_at_call 38; refine (Mask_any _ _).mono ?_; rintro e w' ⟨rfl, rfl⟩) | (go_at_call 63; refine (Signed_any _ _ _).mono ?_; rintro e w' ⟨rfl, rfl⟩))
    go_quiet ((go_at_call 38; exact fin.out _))
    go_wp2
    go_ret2
    exact ⟨ret_two (quo_raw h1 h2) rfl, _, rfl⟩

theorem divideSigned_rem (w a b : Int) (wd : World) (h1 : 1 ≤ w) (h2 : w ≤ 64) (ha : 0 ≤ a) (ha' : a < pw w.toNat) (hb : 0 ≤ b) (hb' : b < pw w.toNat) (h0 : b ≠ 0) (hn : ¬ (a = pw (w.toNat - 1) ∧ b = msk w)) :
    Calls Try.prog 86 #[.int .i64 7, .int .i64 w, .int .u64 a, .int .u64 b] wd fun e w' => e = .returned (.tuple #[.int .u64 ((sg w.toNat a).tmod (sg w.toNat b) % pw w.toNat), .int .i64 0]) ∧ ∃ n, w' = wd.drewN n := by
  have ea : sg w.toNat a = sgn w a := by rw [sgn_in _ h1 h2, Int.emod_eq_of_lt ha ha']
  have eb : sg w.toNat b = sgn w b := by rw [sgn_in _ h1 h2, Int.emod_eq_of_lt hb hb']
  have h3 : ¬ sgn w b = 0 := by rw [← eb]; exact sg_nz (by omega) hb hb' h0
  rw [ea, eb]
  have h0' : (b == 0) = false := by simpa using h0
  clear ea eb ha ha' hb hb' h0
  have fin : Hid (∀ n, Calls Try.prog 38 #[.int .i64 w] (wd.drewN n) fun e w'' => e = .returned (.int .u64 (msk w)) ∧ ∃ m, w'' = wd.drewN m) := fun n => quiet_left (Mask_any w _)
  by_cases hq : a = pw (w.toNat - 1)
  · have hm : (b == msk w) = false := by simp only [beq_eq_false_iff_ne]; exact fun h => hn ⟨hq, h⟩
    subst hq
    clear hn
    go_enter Try.func86, Try.ntmps86
    go_wp2_with (first | (go_at_call 95; refine (leastSigned_any _ _ h1 h2).mono ?_; rintro e w' ⟨rfl, rfl⟩) | (go_at_call 38; refine (Mask_any _ _).mono ?_; rintro e w' ⟨rfl, rfl⟩) | (go_at_call 63; refine (Signed_any _ _ _).mono ?_; rintro e w' ⟨rfl, rfl⟩))
    go_quiet ((go_at_call 38; exact fin.out _))
    go_wp2
    go_ret2
    exact ⟨ret_two (and_msk_wrap _ _ h1 h2) rfl, _, rfl⟩
  · have hq' : (a == pw (w.toNat - 1)) = false := by simpa using hq
    clear hn hq
    go_enter Try.func86, Try.ntmps86
    go_wp2_with (first | (go_at_call 95; refine (leastSigned_any _ _ h1 h2).mono ?_; rintro e w' ⟨rfl, rfl⟩) | (go_at_call 38; refine (Mask_any _ _).mono ?_; rintro e w' ⟨rfl, rfl⟩) | (go_at_call 63; refine (Signed_any _ _ _).mono ?_; rintro e w' ⟨rfl, rfl⟩))
    go_quiet ((go_at_call 38; exact fin.out _))
    go_wp2
    go_ret2
    exact ⟨ret_two (and_msk_wrap _ _ h1 h2) rfl, _, rfl⟩

theorem shift_over (op w a b : Int) (wd : World) (h1 : 1 ≤ w) (h2 : w ≤ 64) (hb : w ≤ b) :
    Calls Try.prog 87 #[.int .i64 op, .int .i64 w, .int .u64 a, .int .u64 b] wd fun e w' => e = .returned (.tuple #[.int .u64 0, .int .i64 1]) ∧ wd = w' := by
  go_enter Try.func87, Try.ntmps87
  go_wp2
  go_ret2
  exact ⟨ret_two rfl rfl, rfl⟩
theorem shift_shl (w a b : Int) (wd : World) (h1 : 1 ≤ w) (h2 : w ≤ 64) (hb : 0 ≤ b) (hb' : b < w) :
    Calls Try.prog 87 #[.int .i64 11, .int .i64 w, .int .u64 a, .int .u64 b] wd fun e w' => e = .returned (.tuple #[.int .u64 (a * pw b.toNat % pw w.toNat), .int .i64 0]) ∧ wd = w' := by
  go_enter Try.func87, Try.ntmps87
  go_wp2_with (go_at_call 38; refine (Mask_any _ _).mono ?_; rintro e w' ⟨rfl, rfl⟩)
  go_ret2
  exact ⟨ret_two (and_msk_wrap _ _ h1 h2) rfl, rfl⟩
theorem shift_lshr (w a b : Int) (wd : World) (h1 : 1 ≤ w) (h2 : w ≤ 64) (hb : 0 ≤ b) (hb' : b < w) :
    Calls Try.prog 87 #[.int .i64 12, .int .i64 w, .int .u64 a, .int .u64 b] wd fun e w' => e = .returned (.tuple #[.int .u64 (a / pw b.toNat), .int .i64 0]) ∧ wd = w' := by
  go_enter Try.func87, Try.ntmps87
  go_wp2
  go_ret2
  exact ⟨ret_two rfl rfl, rfl⟩
theorem shift_ashr (w a b : Int) (wd : World) (h1 : 1 ≤ w) (h2 : w ≤ 64) (ha : 0 ≤ a) (ha' : a < pw w.toNat) (hb : 0 ≤ b) (hb' : b < w) :
    Calls Try.prog 87 #[.int .i64 13, .int .i64 w, .int .u64 a, .int .u64 b] wd fun e w' => e = .returned (.tuple #[.int .u64 (sg w.toNat a / pw b.toNat % pw w.toNat), .int .i64 0]) ∧ wd = w' := by
  have ea : sg w.toNat a = sgn w a := by rw [sgn_in _ h1 h2, Int.emod_eq_of_lt ha ha']
  rw [ea]
  clear ea ha ha'
  go_enter Try.func87, Try.ntmps87
  go_wp2_with (first | (go_at_call 38; refine (Mask_any _ _).mono ?_; rintro e w' ⟨rfl, rfl⟩) | (go_at_call 63; refine (Signed_any _ _ _).mono ?_; rintro e w' ⟨rfl, rfl⟩))
  go_ret2
  exact ⟨ret_two (and_msk_wrap _ _ h1 h2) rfl, rfl⟩

theorem holds_any (op w a b : Int) (wd : World) (ho : op = 14 ∨ op = 15 ∨ op = 16 ∨ op = 17 ∨ op = 18 ∨ op = 19) :
    Calls Try.prog 88 #[.int .i64 op, .int .i64 w, .int .u64 a, .int .u64 b] wd fun e w' => e = .returned (.bool (cmpB op a b (sgn w a) (sgn w b))) ∧ wd = w' := by
  rcases ho with rfl | rfl | rfl | rfl | rfl | rfl
  all_goals
    go_enter Try.func88, Try.ntmps88
    go_wp2_with (go_at_call 63; refine (Signed_any _ _ _).mono ?_; rintro e w' ⟨rfl, rfl⟩)
    go_ret
    exact ⟨ret_bool rfl, rfl⟩
theorem plain_1 (w a b : Int) (wd : World) (h1 : 1 ≤ w) (h2 : w ≤ 64) (ha : 0 ≤ a) (ha' : a < pw w.toNat) (hb : 0 ≤ b) (hb' : b < pw w.toNat) :
    Calls Try.prog 75 #[.int .i64 1, .int .i64 w, .int .u64 a, .int .u64 b] wd fun e w' => e = .returned (.tuple #[.int .u64 (plR w.toNat 1 a b), .int .i64 (plE w.toNat 1 a b)]) ∧ ∃ n, w' = wd.drewN n := by
  go_enter Try.func75, Try.ntmps75
  go_wp2_with (go_at_call 38; refine (Mask_any _ _).mono ?_; rintro e w' ⟨rfl, rfl⟩)
  go_ret2
  exact ⟨ret_two (and_msk_wrap _ _ h1 h2) rfl, 0, rfl⟩

theorem plain_2 (w a b : Int) (wd : World) (h1 : 1 ≤ w) (h2 : w ≤ 64) (ha : 0 ≤ a) (ha' : a < pw w.toNat) (hb : 0 ≤ b) (hb' : b < pw w.toNat) :
    Calls Try.prog 75 #[.int .i64 2, .int .i64 w, .int .u64 a, .int .u64 b] wd fun e w' => e = .returned (.tuple #[.int .u64 (plR w.toNat 2 a b), .int .i64 (plE w.toNat 2 a b)]) ∧ ∃ n, w' = wd.drewN n := by
  go_enter Try.func75, Try.ntmps75
  go_wp2_with (go_at_call 38; refine (Mask_any _ _).mono ?_; rintro e w' ⟨rfl, rfl⟩)
  go_ret2
  exact ⟨ret_two (and_msk_wrap _ _ h1 h2) rfl, 0, rfl⟩

theorem plain_3 (w a b : Int) (wd : World) (h1 : 1 ≤ w) (h2 : w ≤ 64) (ha : 0 ≤ a) (ha' : a < pw w.toNat) (hb : 0 ≤ b) (hb' : b < pw w.toNat) :
    Calls Try.prog 75 #[.int .i64 3, .int .i64 w, .int .u64 a, .int .u64 b] wd fun e w' => e = .returned (.tuple #[.int .u64 (plR w.toNat 3 a b), .int .i64 (plE w.toNat 3 a b)]) ∧ ∃ n, w' = wd.drewN n := by
  go_enter Try.func75, Try.ntmps75
  go_wp2_with (go_at_call 38; refine (Mask_any _ _).mono ?_; rintro e w' ⟨rfl, rfl⟩)
  go_ret2
  exact ⟨ret_two (and_msk_wrap _ _ h1 h2) rfl, 0, rfl⟩

theorem plain_8 (w a b : Int) (wd : World) (h1 : 1 ≤ w) (h2 : w ≤ 64) (ha : 0 ≤ a) (ha' : a < pw w.toNat) (hb : 0 ≤ b) (hb' : b < pw w.toNat) :
    Calls Try.prog 75 #[.int .i64 8, .int .i64 w, .int .u64 a, .int .u64 b] wd fun e w' => e = .returned (.tuple #[.int .u64 (plR w.toNat 8 a b), .int .i64 (plE w.toNat 8 a b)]) ∧ ∃ n, w' = wd.drewN n := by
  go_enter Try.func75, Try.ntmps75
  go_wp2
  go_ret2
  exact ⟨ret_two rfl rfl, 0, rfl⟩

theorem plain_9 (w a b : Int) (wd : World) (h1 : 1 ≤ w) (h2 : w ≤ 64) (ha : 0 ≤ a) (ha' : a < pw w.toNat) (hb : 0 ≤ b) (hb' : b < pw w.toNat) :
    Calls Try.prog 75 #[.int .i64 9, .int .i64 w, .int .u64 a, .int .u64 b] wd fun e w' => e = .returned (.tuple #[.int .u64 (plR w.toNat 9 a b), .int .i64 (plE w.toNat 9 a b)]) ∧ ∃ n, w' = wd.drewN n := by
  go_enter Try.func75, Try.ntmps75
  go_wp2
  go_ret2
  exact ⟨ret_two rfl rfl, 0, rfl⟩

theorem plain_10 (w a b : Int) (wd : World) (h1 : 1 ≤ w) (h2 : w ≤ 64) (ha : 0 ≤ a) (ha' : a < pw w.toNat) (hb : 0 ≤ b) (hb' : b < pw w.toNat) :
    Calls Try.prog 75 #[.int .i64 10, .int .i64 w, .int .u64 a, .int .u64 b] wd fun e w' => e = .returned (.tuple #[.int .u64 (plR w.toNat 10 a b), .int .i64 (plE w.toNat 10 a b)]) ∧ ∃ n, w' = wd.drewN n := by
  go_enter Try.func75, Try.ntmps75
  go_wp2
  go_ret2
  exact ⟨ret_two rfl rfl, 0, rfl⟩

theorem plain_4 (w a b : Int) (wd : World) (h1 : 1 ≤ w) (h2 : w ≤ 64) (ha : 0 ≤ a) (ha' : a < pw w.toNat) (hb : 0 ≤ b) (hb' : b < pw w.toNat) :
    Calls Try.prog 75 #[.int .i64 4, .int .i64 w, .int .u64 a, .int .u64 b] wd fun e w' => e = .returned (.tuple #[.int .u64 (plR w.toNat 4 a b), .int .i64 (plE w.toNat 4 a b)]) ∧ ∃ n, w' = wd.drewN n := by
  have hm := pw_le64 (n := w.toNat) (by omega)
  have ha2 : a < 18446744073709551616 := by omega
  have hb2 : b < 18446744073709551616 := by omega
  clear ha' hb' hm
  by_cases h0 : b = 0
  · subst h0
    go_enter Try.func75, Try.ntmps75
    go_wp2_with (go_at_call 85; refine (divide_any _ _ _ _ (by omega) (by omega) (by omega) (by omega) (by omega)).mono ?_; rintro e w' ⟨rfl, rfl⟩)
    go_ret2
    exact ⟨ret_two rfl rfl, 0, rfl⟩
  · have h3 := h0
    go_enter Try.func75, Try.ntmps75
    go_wp2_with (go_at_call 85; refine (divide_any _ _ _ _ (by omega) (by omega) (by omega) (by omega) (by omega)).mono ?_; rintro e w' ⟨rfl, rfl⟩)
    go_ret2
    exact ⟨ret_two (by simp [plR, plE, plV, h0]) (by simp [plE, h0]), 0, rfl⟩

theorem plain_6 (w a b : Int) (wd : World) (h1 : 1 ≤ w) (h2 : w ≤ 64) (ha : 0 ≤ a) (ha' : a < pw w.toNat) (hb : 0 ≤ b) (hb' : b < pw w.toNat) :
    Calls Try.prog 75 #[.int .i64 6, .int .i64 w, .int .u64 a, .int .u64 b] wd fun e w' => e = .returned (.tuple #[.int .u64 (plR w.toNat 6 a b), .int .i64 (plE w.toNat 6 a b)]) ∧ ∃ n, w' = wd.drewN n := by
  have hm := pw_le64 (n := w.toNat) (by omega)
  have ha2 : a < 18446744073709551616 := by omega
  have hb2 : b < 18446744073709551616 := by omega
  clear ha' hb' hm
  by_cases h0 : b = 0
  · subst h0
    go_enter Try.func75, Try.ntmps75
    go_wp2_with (go_at_call 85; refine (divide_any _ _ _ _ (by omega) (by omega) (by omega) (by omega) (by omega)).mono ?_; rintro e w' ⟨rfl, rfl⟩)
    go_ret2
    exact ⟨ret_two rfl rfl, 0, rfl⟩
  · have h3 := h0
    go_enter Try.func75, Try.ntmps75
    go_wp2_with (go_at_call 85; refine (divide_any _ _ _ _ (by omega) (by omega) (by omega) (by omega) (by omega)).mono ?_; rintro e w' ⟨rfl, rfl⟩)
    go_ret2
    exact ⟨ret_two (by simp [plR, plE, plV, h0]) (by simp [plE, h0]), 0, rfl⟩

theorem plain_5 (w a b : Int) (wd : World) (h1 : 1 ≤ w) (h2 : w ≤ 64) (ha : 0 ≤ a) (ha' : a < pw w.toNat) (hb : 0 ≤ b) (hb' : b < pw w.toNat) :
    Calls Try.prog 75 #[.int .i64 5, .int .i64 w, .int .u64 a, .int .u64 b] wd fun e w' => e = .returned (.tuple #[.int .u64 (plR w.toNat 5 a b), .int .i64 (plE w.toNat 5 a b)]) ∧ ∃ n, w' = wd.drewN n := by
  by_cases h0 : b = 0
  · subst h0
    clear ha ha' hb hb'
    go_enter Try.func75, Try.ntmps75
    go_wp2_with (go_at_call 86; refine (divideSigned_zero _ _ _ _ h1 h2).mono ?_; rintro e w' ⟨rfl, rfl⟩)
    go_ret2
    exact ⟨ret_two rfl rfl, 0, rfl⟩
  · have hE : Hid (plE w.toNat 5 a b = if a = pw (w.toNat - 1) ∧ b = pw w.toNat - 1 then 2 else 0) := by
      show _ = _
      simp [plE, h0]
    by_cases hn : a = pw (w.toNat - 1) ∧ b = msk w
    · have hk : Hid (a = pw (w.toNat - 1) ∧ b = pw w.toNat - 1) := ⟨hn.1, by rw [hn.2, msk_in h1 h2]⟩
      have cc := fun W => divideSigned_over 5 w a b W h1 h2 hn.1 hn.2 (by rw [← hn.2]; simpa using h0)
      clear hn h0 ha ha' hb hb'
      go_enter Try.func75, Try.ntmps75
      go_wp2_with (go_at_call 86; refine (cc _).mono ?_; rintro e w' ⟨rfl, rfl⟩)
      go_ret2
      have e2 : plE w.toNat 5 a b = 2 := by rw [hE.out, if_pos hk.out]
      exact ⟨ret_two (by simp [plR, e2]) e2.symm, 0, rfl⟩
    · have hk : Hid (¬ (a = pw (w.toNat - 1) ∧ b = pw w.toNat - 1)) := by
        show ¬ _
        rw [← msk_in h1 h2]; exact hn
      have cc := fun W => divideSigned_quo w a b W h1 h2 ha ha' hb hb' h0 hn
      clear hn h0 ha ha' hb hb'
      go_enter Try.func75, Try.ntmps75
      go_wp2_with (go_at_call 86; refine (cc _).mono ?_; rintro e w' ⟨rfl, n, rfl⟩)
      go_ret2
      have e2 : plE w.toNat 5 a b = 0 := by rw [hE.out, if_neg hk.out]
      exact ⟨ret_two (by simp [plR, e2]; rfl) e2.symm, _, rfl⟩

theorem plain_7 (w a b : Int) (wd : World) (h1 : 1 ≤ w) (h2 : w ≤ 64) (ha : 0 ≤ a) (ha' : a < pw w.toNat) (hb : 0 ≤ b) (hb' : b < pw w.toNat) :
    Calls Try.prog 75 #[.int .i64 7, .int .i64 w, .int .u64 a, .int .u64 b] wd fun e w' => e = .returned (.tuple #[.int .u64 (plR w.toNat 7 a b), .int .i64 (plE w.toNat 7 a b)]) ∧ ∃ n, w' = wd.drewN n := by
  by_cases h0 : b = 0
  · subst h0
    clear ha ha' hb hb'
    go_enter Try.func75, Try.ntmps75
    go_wp2_with (go_at_call 86; refine (divideSigned_zero _ _ _ _ h1 h2).mono ?_; rintro e w' ⟨rfl, rfl⟩)
    go_ret2
    exact ⟨ret_two rfl rfl, 0, rfl⟩
  · have hE : Hid (plE w.toNat 7 a b = if a = pw (w.toNat - 1) ∧ b = pw w.toNat - 1 then 2 else 0) := by
      show _ = _
      simp [plE, h0]
    by_cases hn : a = pw (w.toNat - 1) ∧ b = msk w
    · have hk : Hid (a = pw (w.toNat - 1) ∧ b = pw w.toNat - 1) := ⟨hn.1, by rw [hn.2, msk_in h1 h2]⟩
      have cc := fun W => divideSigned_over 7 w a b W h1 h2 hn.1 hn.2 (by rw [← hn.2]; simpa using h0)
      clear hn h0 ha ha' hb hb'
      go_enter Try.func75, Try.ntmps75
      go_wp2_with (go_at_call 86; refine (cc _).mono ?_; rintro e w' ⟨rfl, rfl⟩)
      go_ret2
      have e2 : plE w.toNat 7 a b = 2 := by rw [hE.out, if_pos hk.out]
      exact ⟨ret_two (by simp [plR, e2]) e2.symm, 0, rfl⟩
    · have hk : Hid (¬ (a = pw (w.toNat - 1) ∧ b = pw w.toNat - 1)) := by
        show ¬ _
        rw [← msk_in h1 h2]; exact hn
      have cc := fun W => divideSigned_rem w a b W h1 h2 ha ha' hb hb' h0 hn
      clear hn h0 ha ha' hb hb'
      go_enter Try.func75, Try.ntmps75
      go_wp2_with (go_at_call 86; refine (cc _).mono ?_; rintro e w' ⟨rfl, n, rfl⟩)
      go_ret2
      have e2 : plE w.toNat 7 a b = 0 := by rw [hE.out, if_neg hk.out]
      exact ⟨ret_two (by simp [plR, e2]; rfl) e2.symm, _, rfl⟩

theorem plain_11 (w a b : Int) (wd : World) (h1 : 1 ≤ w) (h2 : w ≤ 64) (ha : 0 ≤ a) (ha' : a < pw w.toNat) (hb : 0 ≤ b) (hb' : b < pw w.toNat) :
    Calls Try.prog 75 #[.int .i64 11, .int .i64 w, .int .u64 a, .int .u64 b] wd fun e w' => e = .returned (.tuple #[.int .u64 (plR w.toNat 11 a b), .int .i64 (plE w.toNat 11 a b)]) ∧ ∃ n, w' = wd.drewN n := by
  have hc : ((w.toNat : Nat) : Int) = w := by omega
  by_cases h0 : w ≤ b
  · have e2 : Hid (plE w.toNat 11 a b = 1) := by show _ = _; simp [plE]; omega
    have cc := fun W => shift_over 11 w a b W h1 h2 h0
    clear h0 hc ha ha' hb hb'
    go_enter Try.func75, Try.ntmps75
    go_wp2_with (go_at_call 87; refine (cc _).mono ?_; rintro e w' ⟨rfl, rfl⟩)
    go_ret2
    exact ⟨ret_two (by simp [plR, e2.out]) e2.out.symm, 0, rfl⟩
  · have e2 : Hid (plE w.toNat 11 a b = 0) := by show _ = _; simp [plE]; omega
    have cc := fun W => shift_shl w a b W h1 h2 hb (by omega)
    clear h0 hc ha ha' hb hb'
    go_enter Try.func75, Try.ntmps75
    go_wp2_with (go_at_call 87; refine (cc _).mono ?_; rintro e w' ⟨rfl, rfl⟩)
    go_ret2
    exact ⟨ret_two (by simp [plR, e2.out]; rfl) e2.out.symm, 0, rfl⟩

theorem plain_12 (w a b : Int) (wd : World) (h1 : 1 ≤ w) (h2 : w ≤ 64) (ha : 0 ≤ a) (ha' : a < pw w.toNat) (hb : 0 ≤ b) (hb' : b < pw w.toNat) :
    Calls Try.prog 75 #[.int .i64 12, .int .i64 w, .int .u64 a, .int .u64 b] wd fun e w' => e = .returned (.tuple #[.int .u64 (plR w.toNat 12 a b), .int .i64 (plE w.toNat 12 a b)]) ∧ ∃ n, w' = wd.drewN n := by
  have hc : ((w.toNat : Nat) : Int) = w := by omega
  by_cases h0 : w ≤ b
  · have e2 : Hid (plE w.toNat 12 a b = 1) := by show _ = _; simp [plE]; omega
    have cc := fun W => shift_over 12 w a b W h1 h2 h0
    clear h0 hc ha ha' hb hb'
    go_enter Try.func75, Try.ntmps75
    go_wp2_with (go_at_call 87; refine (cc _).mono ?_; rintro e w' ⟨rfl, rfl⟩)
    go_ret2
    exact ⟨ret_two (by simp [plR, e2.out]) e2.out.symm, 0, rfl⟩
  · have e2 : Hid (plE w.toNat 12 a b = 0) := by show _ = _; simp [plE]; omega
    have cc := fun W => shift_lshr w a b W h1 h2 hb (by omega)
    clear h0 hc ha ha' hb hb'
    go_enter Try.func75, Try.ntmps75
    go_wp2_with (go_at_call 87; refine (cc _).mono ?_; rintro e w' ⟨rfl, rfl⟩)
    go_ret2
    exact ⟨ret_two (by simp [plR, e2.out]; rfl) e2.out.symm, 0, rfl⟩

theorem plain_13 (w a b : Int) (wd : World) (h1 : 1 ≤ w) (h2 : w ≤ 64) (ha : 0 ≤ a) (ha' : a < pw w.toNat) (hb : 0 ≤ b) (hb' : b < pw w.toNat) :
    Calls Try.prog 75 #[.int .i64 13, .int .i64 w, .int .u64 a, .int .u64 b] wd fun e w' => e = .returned (.tuple #[.int .u64 (plR w.toNat 13 a b), .int .i64 (plE w.toNat 13 a b)]) ∧ ∃ n, w' = wd.drewN n := by
  have hc : ((w.toNat : Nat) : Int) = w := by omega
  by_cases h0 : w ≤ b
  · have e2 : Hid (plE w.toNat 13 a b = 1) := by show _ = _; simp [plE]; omega
    have cc := fun W => shift_over 13 w a b W h1 h2 h0
    clear h0 hc ha ha' hb hb'
    go_enter Try.func75, Try.ntmps75
    go_wp2_with (go_at_call 87; refine (cc _).mono ?_; rintro e w' ⟨rfl, rfl⟩)
    go_ret2
    exact ⟨ret_two (by simp [plR, e2.out]) e2.out.symm, 0, rfl⟩
  · have e2 : Hid (plE w.toNat 13 a b = 0) := by show _ = _; simp [plE]; omega
    have cc := fun W => shift_ashr w a b W h1 h2 ha ha' hb (by omega)
    clear h0 hc ha ha' hb hb'
    go_enter Try.func75, Try.ntmps75
    go_wp2_with (go_at_call 87; refine (cc _).mono ?_; rintro e w' ⟨rfl, rfl⟩)
    go_ret2
    exact ⟨ret_two (by simp [plR, e2.out]; rfl) e2.out.symm, 0, rfl⟩

theorem plain_14 (w a b : Int) (wd : World) (h1 : 1 ≤ w) (h2 : w ≤ 64) (ha : 0 ≤ a) (ha' : a < pw w.toNat) (hb : 0 ≤ b) (hb' : b < pw w.toNat) :
    Calls Try.prog 75 #[.int .i64 14, .int .i64 w, .int .u64 a, .int .u64 b] wd fun e w' => e = .returned (.tuple #[.int .u64 (plR w.toNat 14 a b), .int .i64 (plE w.toNat 14 a b)]) ∧ ∃ n, w' = wd.drewN n := by
  have ea : sgn w a = sg w.toNat a := by rw [sgn_in _ h1 h2, Int.emod_eq_of_lt ha ha']
  have eb : sgn w b = sg w.toNat b := by rw [sgn_in _ h1 h2, Int.emod_eq_of_lt hb hb']
  have cc : ∀ W, _ := fun W => holds_any 14 w a b W (by omega)
  rw [ea, eb] at cc
  clear ea eb ha ha' hb hb'
  have e2 : Hid (plR w.toNat 14 a b = if cmpB 14 a b (sg w.toNat a) (sg w.toNat b) then 1 else 0) := rfl
  cases hq : cmpB 14 a b (sg w.toNat a) (sg w.toNat b)
  all_goals
    rw [hq] at cc
    have e3 := Lib.hid hq
    clear hq
    go_enter Try.func75, Try.ntmps75
    go_wp2_with (go_at_call 88; refine (cc _).mono ?_; rintro e w' ⟨rfl, rfl⟩)
    go_ret2
    exact ⟨ret_two (by rw [e2.out, e3.out]; rfl) rfl, 0, rfl⟩

theorem plain_15 (w a b : Int) (wd : World) (h1 : 1 ≤ w) (h2 : w ≤ 64) (ha : 0 ≤ a) (ha' : a < pw w.toNat) (hb : 0 ≤ b) (hb' : b < pw w.toNat) :
    Calls Try.prog 75 #[.int .i64 15, .int .i64 w, .int .u64 a, .int .u64 b] wd fun e w' => e = .returned (.tuple #[.int .u64 (plR w.toNat 15 a b), .int .i64 (plE w.toNat 15 a b)]) ∧ ∃ n, w' = wd.drewN n := by
  have ea : sgn w a = sg w.toNat a := by rw [sgn_in _ h1 h2, Int.emod_eq_of_lt ha ha']
  have eb : sgn w b = sg w.toNat b := by rw [sgn_in _ h1 h2, Int.emod_eq_of_lt hb hb']
  have cc : ∀ W, _ := fun W => holds_any 15 w a b W (by omega)
  rw [ea, eb] at cc
  clear ea eb ha ha' hb hb'
  have e2 : Hid (plR w.toNat 15 a b = if cmpB 15 a b (sg w.toNat a) (sg w.toNat b) then 1 else 0) := rfl
  cases hq : cmpB 15 a b (sg w.toNat a) (sg w.toNat b)
  all_goals
    rw [hq] at cc
    have e3 := Lib.hid hq
    clear hq
    go_enter Try.func75, Try.ntmps75
    go_wp2_with (go_at_call 88; refine (cc _).mono ?_; rintro e w' ⟨rfl, rfl⟩)
    go_ret2
    exact ⟨ret_two (by rw [e2.out, e3.out]; rfl) rfl, 0, rfl⟩

theorem plain_16 (w a b : Int) (wd : World) (h1 : 1 ≤ w) (h2 : w ≤ 64) (ha : 0 ≤ a) (ha' : a < pw w.toNat) (hb : 0 ≤ b) (hb' : b < pw w.toNat) :
    Calls Try.prog 75 #[.int .i64 16, .int .i64 w, .int .u64 a, .int .u64 b] wd fun e w' => e = .returned (.tuple #[.int .u64 (plR w.toNat 16 a b), .int .i64 (plE w.toNat 16 a b)]) ∧ ∃ n, w' = wd.drewN n := by
  have ea : sgn w a = sg w.toNat a := by rw [sgn_in _ h1 h2, Int.emod_eq_of_lt ha ha']
  have eb : sgn w b = sg w.toNat b := by rw [sgn_in _ h1 h2, Int.emod_eq_of_lt hb hb']
  have cc : ∀ W, _ := fun W => holds_any 16 w a b W (by omega)
  rw [ea, eb] at cc
  clear ea eb ha ha' hb hb'
  have e2 : Hid (plR w.toNat 16 a b = if cmpB 16 a b (sg w.toNat a) (sg w.toNat b) then 1 else 0) := rfl
  cases hq : cmpB 16 a b (sg w.toNat a) (sg w.toNat b)
  all_goals
    rw [hq] at cc
    have e3 := Lib.hid hq
    clear hq
    go_enter Try.func75, Try.ntmps75
    go_wp2_with (go_at_call 88; refine (cc _).mono ?_; rintro e w' ⟨rfl, rfl⟩)
    go_ret2
    exact ⟨ret_two (by rw [e2.out, e3.out]; rfl) rfl, 0, rfl⟩

theorem plain_17 (w a b : Int) (wd : World) (h1 : 1 ≤ w) (h2 : w ≤ 64) (ha : 0 ≤ a) (ha' : a < pw w.toNat) (hb : 0 ≤ b) (hb' : b < pw w.toNat) :
    Calls Try.prog 75 #[.int .i64 17, .int .i64 w, .int .u64 a, .int .u64 b] wd fun e w' => e = .returned (.tuple #[.int .u64 (plR w.toNat 17 a b), .int .i64 (plE w.toNat 17 a b)]) ∧ ∃ n, w' = wd.drewN n := by
  have ea : sgn w a = sg w.toNat a := by rw [sgn_in _ h1 h2, Int.emod_eq_of_lt ha ha']
  have eb : sgn w b = sg w.toNat b := by rw [sgn_in _ h1 h2, Int.emod_eq_of_lt hb hb']
  have cc : ∀ W, _ := fun W => holds_any 17 w a b W (by omega)
  rw [ea, eb] at cc
  clear ea eb ha ha' hb hb'
  have e2 : Hid (plR w.toNat 17 a b = if cmpB 17 a b (sg w.toNat a) (sg w.toNat b) then 1 else 0) := rfl
  cases hq : cmpB 17 a b (sg w.toNat a) (sg w.toNat b)
  all_goals
    rw [hq] at cc
    have e3 := Lib.hid hq
    clear hq
    go_enter Try.func75, Try.ntmps75
    go_wp2_with (go_at_call 88; refine (cc _).mono ?_; rintro e w' ⟨rfl, rfl⟩)
    go_ret2
    exact ⟨ret_two (by rw [e2.out, e3.out]; rfl) rfl, 0, rfl⟩

theorem plain_18 (w a b : Int) (wd : World) (h1 : 1 ≤ w) (h2 : w ≤ 64) (ha : 0 ≤ a) (ha' : a < pw w.toNat) (hb : 0 ≤ b) (hb' : b < pw w.toNat) :
    Calls Try.prog 75 #[.int .i64 18, .int .i64 w, .int .u64 a, .int .u64 b] wd fun e w' => e = .returned (.tuple #[.int .u64 (plR w.toNat 18 a b), .int .i64 (plE w.toNat 18 a b)]) ∧ ∃ n, w' = wd.drewN n := by
  have ea : sgn w a = sg w.toNat a := by rw [sgn_in _ h1 h2, Int.emod_eq_of_lt ha ha']
  have eb : sgn w b = sg w.toNat b := by rw [sgn_in _ h1 h2, Int.emod_eq_of_lt hb hb']
  have cc : ∀ W, _ := fun W => holds_any 18 w a b W (by omega)
  rw [ea, eb] at cc
  clear ea eb ha ha' hb hb'
  have e2 : Hid (plR w.toNat 18 a b = if cmpB 18 a b (sg w.toNat a) (sg w.toNat b) then 1 else 0) := rfl
  cases hq : cmpB 18 a b (sg w.toNat a) (sg w.toNat b)
  all_goals
    rw [hq] at cc
    have e3 := Lib.hid hq
    clear hq
    go_enter Try.func75, Try.ntmps75
    go_wp2_with (go_at_call 88; refine (cc _).mono ?_; rintro e w' ⟨rfl, rfl⟩)
    go_ret2
    exact ⟨ret_two (by rw [e2.out, e3.out]; rfl) rfl, 0, rfl⟩

theorem plain_19 (w a b : Int) (wd : World) (h1 : 1 ≤ w) (h2 : w ≤ 64) (ha : 0 ≤ a) (ha' : a < pw w.toNat) (hb : 0 ≤ b) (hb' : b < pw w.toNat) :
    Calls Try.prog 75 #[.int .i64 19, .int .i64 w, .int .u64 a, .int .u64 b] wd fun e w' => e = .returned (.tuple #[.int .u64 (plR w.toNat 19 a b), .int .i64 (plE w.toNat 19 a b)]) ∧ ∃ n, w' = wd.drewN n := by
  have ea : sgn w a = sg w.toNat a := by rw [sgn_in _ h1 h2, Int.emod_eq_of_lt ha ha']
  have eb : sgn w b = sg w.toNat b := by rw [sgn_in _ h1 h2, Int.emod_eq_of_lt hb hb']
  have cc : ∀ W, _ := fun W => holds_any 19 w a b W (by omega)
  rw [ea, eb] at cc
  clear ea eb ha ha' hb hb'
  have e2 : Hid (plR w.toNat 19 a b = if cmpB 19 a b (sg w.toNat a) (sg w.toNat b) then 1 else 0) := rfl
  cases hq : cmpB 19 a b (sg w.toNat a) (sg w.toNat b)
  all_goals
    rw [hq] at cc
    have e3 := Lib.hid hq
    clear hq
    go_enter Try.func75, Try.ntmps75
    go_wp2_with (go_at_call 88; refine (cc _).mono ?_; rintro e w' ⟨rfl, rfl⟩)
    go_ret2
    exact ⟨ret_two (by rw [e2.out, e3.out]; rfl) rfl, 0, rfl⟩

end Go.Proofs.Ytpjfkmaceaikbaa
