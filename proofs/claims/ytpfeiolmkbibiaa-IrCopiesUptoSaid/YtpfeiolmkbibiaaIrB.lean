/- Package ir: Size. -/
import Derived.Test.YtpfeiolmkbibiaaIrA
namespace Go.Proofs.Ytpfeiolmkbibiaa
open Go.RowKit
set_option linter.unusedVariables false
set_option linter.unusedSimpArgs false

theorem ret_int {k : IntKind} {a b : Int} (h : a = b) : Ending.returned (.int k a) = .returned (.int k b) := by rw [h]
theorem ret_bool {a b : Bool} (h : a = b) : Ending.returned (.bool a) = .returned (.bool b) := by rw [h]

/-- The instructions ahead of place (b, k). -/
def ahead (l : List (List Ins)) (b k : Nat) : List Ins := (l.take b).flatten ++ (l.getD b []).take k
theorem ahead_0 (l : List (List Ins)) : ahead l 0 0 = [] := by simp [ahead]
theorem ahead_next (l : List (List Ins)) (b : Nat) (h : b < l.length) : ahead l (b + 1) 0 = ahead l b l[b].length := by
  unfold ahead
  have e : l.getD b [] = l[b] := by simp [List.getD_eq_getElem?_getD, h]
  rw [List.take_succ_eq_append_getElem h, List.flatten_append, e, List.take_length, List.take_zero, List.append_nil, List.flatten_cons, List.flatten_nil, List.append_nil]
theorem ahead_succ (l : List (List Ins)) (b k : Nat) (h : b < l.length) (hk : k < l[b].length) : ahead l b (k + 1) = ahead l b k ++ [l[b][k]] := by
  unfold ahead
  have e : l.getD b [] = l[b] := by simp [List.getD_eq_getElem?_getD, h]
  rw [e, List.take_succ_eq_append_getElem hk, List.append_assoc]
theorem ahead_all (l : List (List Ins)) : ahead l l.length 0 = l.flatten := by simp [ahead]
theorem ahead_le (l : List (List Ins)) (b k : Nat) (h : b < l.length) (hk : k < l[b].length) : (ahead l b k).length < l.flatten.length := by
  have e : l.flatten = ahead l b k ++ (l[b].drop k ++ (l.drop (b + 1)).flatten) := by
    have h1 : l = l.take b ++ l[b] :: l.drop (b + 1) := by rw [List.getElem_cons_drop, List.take_append_drop]
    have e : l.getD b [] = l[b] := by simp [List.getD_eq_getElem?_getD, h]
    unfold ahead
    rw [e]
    calc l.flatten = (l.take b ++ l[b] :: l.drop (b + 1)).flatten := by rw [← h1]
      _ = _ := by rw [List.flatten_append, List.flatten_cons, List.append_assoc, ← List.append_assoc ((l[b]).take k), List.take_append_drop]
  rw [e, List.length_append, List.length_append, List.length_drop]
  omega

theorem CodeAt.below {B : Nat} {W w : World} {s : Value} {l : List Ins} (h : CodeAt B W s l) (hb : Below B W w) : CodeAt B w s l := by
  obtain ⟨p, cap, h1, h2, h3, h4⟩ := h
  refine ⟨p, cap, h1, h2, h3, fun i hi => ?_⟩
  obtain ⟨a, e, ha, hI⟩ := h4 i hi
  exact ⟨a, e, ha, hI.below hb (by rw [add_block]; exact ha)⟩
theorem BlocksAt.below {B : Nat} {W w : World} {s : Value} {l : List (List Ins)} (h : BlocksAt B W s l) (hb : Below B W w) : BlocksAt B w s l := by
  obtain ⟨p, cap, h1, h2, h3, h4⟩ := h
  refine ⟨p, cap, h1, h2, h3, fun i hi => ?_⟩
  obtain ⟨a, v, e, ha, hc, hI⟩ := h4 i hi
  exact ⟨a, v, e, ha, (hb.cell (p := a.add i) (by rw [add_block]; exact ha)).trans hc, hI.below hb⟩
/-- A block of one cell of the call's own, that may be written. -/
def One (B : Nat) (c : Nat) (v : Value) (w : World) : Prop := B ≤ c ∧ c < w.heap.size ∧ w.cell? ⟨c, 0, none⟩ = some v ∧ w.frozen? ⟨c, 0, none⟩ = false
theorem One.alloc {B c : Nat} {v : Value} {w : World} (h : One B c v w) (x : Array Value) (t : TypeId) : One B c v (w.alloc (.cells x t)) := by
  obtain ⟨h1, h2, h3, h4⟩ := h
  refine ⟨h1, by simp; omega, by rw [World.cell?_alloc_past _ _ _ h2]; exact h3, ?_⟩
  exact (((Below.refl w.heap.size w).alloc (Nat.le_refl _) _).frozen (p := ⟨c, 0, none⟩) h2).trans h4
theorem One.new {B : Nat} (w : World) (hB : B ≤ w.heap.size) (v : Value) (t : TypeId) : One B w.heap.size v (w.alloc (.cells #[v] t)) :=
  ⟨hB, by simp, by rw [World.cell?_alloc_at _ _ _ _ rfl]; rfl, World.frozen?_alloc_at _ _ _ _ rfl⟩
theorem One.new2 {B : Nat} (w : World) (hB : B ≤ w.heap.size) (x : Array Value) (t' : TypeId) (v : Value) (t : TypeId) : One B (w.heap.size + 1) v ((w.alloc (.cells x t')).alloc (.cells #[v] t)) := by
  have h := One.new (w.alloc (.cells x t')) (B := B) (by simp; omega) v t
  have e : (w.alloc (.cells x t')).heap.size = w.heap.size + 1 := by simp
  rwa [e] at h
theorem One.set {B c : Nat} {v : Value} {w : World} (h : One B c v w) (v' : Value) : One B c v' (w.setCell ⟨c, 0, none⟩ v') := by
  obtain ⟨h1, h2, h3, h4⟩ := h
  exact ⟨h1, by simpa [World.setCell] using h2, by rw [World.cell?_setCell_same' _ _ _ (by rw [h3]; rfl)], by rw [World.frozen?_setCell]; exact h4⟩

/-- From w on, nothing below B has changed. -/
def Past (B : Nat) (W w : World) : Prop := B ≤ W.heap.size ∧ Below B W w
theorem Past.refl {B : Nat} {W : World} (h : B ≤ W.heap.size) : Past B W W := ⟨h, Below.refl _ _⟩
theorem Past.size {B : Nat} {W w : World} (h : Past B W w) : B ≤ w.heap.size := Nat.le_trans h.1 h.2.size
theorem Past.alloc {B : Nat} {W w : World} (h : Past B W w) (o : Obj) : Past B W (w.alloc o) := ⟨h.1, h.2.alloc h.size o⟩
theorem Past.set {B : Nat} {W w : World} (h : Past B W w) {a : Addr} (ha : B ≤ a.block) (v : Value) : Past B W (w.setCell a v) := ⟨h.1, h.2.setCell ha v⟩
theorem Past.trans {B : Nat} {a b c : World} (h : Past B a b) (k : Past B b c) : Past B a c := ⟨h.1, h.2.trans k.2⟩
theorem Past.drew {B : Nat} {W w : World} (h : Past B W w) : Past B W w.drew := ⟨h.1, ⟨h.2.os, h.2.tape, h.2.output, h.2.size, h.2.block⟩⟩

theorem size1_any (B c : Nat) (n : Int) (p0 p1 p2 q0 q1 q2 q3 q4 : Int) (ap tp : Option Addr) (al ac tl tc : Nat) (w : World) (hB : B ≤ w.heap.size) (h : One B c (.int .i64 n) w) (h0 : 0 ≤ n) (h1 : n < 4611686018427387904) :
    Calls Try.prog 53 #[.agg #[.int .i64 p0, .int .i64 p1, .int .i64 p2], .agg #[.int .i64 q0, .int .i64 q1, .int .i64 q2, .int .i64 q3, .int .i64 q4, .slice ap al ac, .slice tp tl tc], .pointer (some ⟨c, 0, none⟩)] w
      fun e w' => e = .returned (.tuple #[]) ∧ Below B w w' ∧ One B c (.int .i64 (n + 1)) w' := by
  obtain ⟨k1, k2, k3, k4⟩ := id h
  go_enter Try.func53, Try.ntmps53
  go_wp2
  go_end0
  exact ⟨rfl, ((((Past.refl hB).set k1 _).alloc _).alloc _).2, ((h.set _).alloc _ _).alloc _ _⟩

theorem enters_s : ∀ (args : Array Value) (w : World), (callFunc 53 args).run Try.prog w = .ok (.enter 53 args) w := fun _ _ => rfl
set_option maxHeartbeats 1000000 in
theorem Size_any (B : Nat) (l : List (List Ins)) (W : World) (nm pa : Value) (rt : Int) (s0 : ByteArray) (p1 : Option Addr) (n1 c1 : Nat) (p2 : Option Addr) (n2 c2 : Nat) (hB : B ≤ W.heap.size) (hl : BlocksAt B W (.slice p2 n2 c2) l) (T : Nat) (eT : l.flatten.length = T) (hT : T < 4611686018427387904) :
    Calls Try.prog 28 #[.agg #[.string s0, .slice p1 n1 c1, .int .i64 rt, .slice p2 n2 c2]] W fun e w' => e = .returned (.int .i64 T) ∧ Below B W w' := by
  have hmf : ∀ (fn : Fn) (first cap : Array Value) (w : World), (Instr.makeFunc fn first cap).run Try.prog w = .ok (.func fn first cap) w := fun _ _ _ _ => rfl
  have ET := Lib.hid eT
  go_enter Try.func28, Try.ntmps28
  have hb : Past B W ((W.alloc (.cells #[.string s0, .slice p1 n1 c1, .int .i64 rt, .slice p2 n2 c2] 41)).alloc (.cells #[.int .i64 0] 3)) := ((Past.refl hB).alloc _).alloc _
  have hl2 := hl.below hb.2
  have ho : One B (W.heap.size + 1) (.int .i64 ((ahead l 0 0).length : Nat)) ((W.alloc (.cells #[.string s0, .slice p1 n1 c1, .int .i64 rt, .slice p2 n2 c2] 41)).alloc (.cells #[.int .i64 0] 3)) := by
    rw [ahead_0]; exact One.new2 W hB _ _ _ _
  have he := each_any B l _ (.string s0) (.slice p1 n1 c1) (.int .i64 rt) _ hb.size hl2 53 #[.pointer (some ⟨W.heap.size + 1, 0, none⟩)] (fun b k w => One B (W.heap.size + 1) (.int .i64 ((ahead l b k).length : Nat)) w) enters_s
    ho (fun b h w hw => by rw [ahead_next l b h]; exact hw) (fun b k w c t _ hw => hw.alloc c t)
    (fun b k hb hk w hB hw => by
      have hle := ahead_le l b k hb hk
      rw [ET.out] at hle
      rw [ahead_succ l b k hb hk, List.length_append]
      exact size1_any B _ _ _ _ _ _ _ _ _ _ _ _ _ _ _ _ w hB hw (by omega) (by omega))
  clear eT
  go_wp2_with fail
  refine he.mono ?_
  rintro e w2 ⟨rfl, hb2, ho2⟩
  rw [ahead_all, ET.out] at ho2
  clear he ho hT
  obtain ⟨k1, k2, k3, k4⟩ := id ho2
  go_wp2
  go_ret
  exact ⟨rfl, (hb.trans ⟨hb.size, hb2⟩).2⟩
end Go.Proofs.Ytpfeiolmkbibiaa
