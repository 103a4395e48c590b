/- Package ir: Uses. -/
import Derived.Test.YtpfeiolmkbibiaaIrB
namespace Go.Proofs.Ytpfeiolmkbibiaa
open Go.RowKit
set_option linter.unusedVariables false
set_option linter.unusedSimpArgs false

theorem One.past {B c : Nat} {v : Value} {W w : World} (h : One B c v W) (hb : Past (c + 1) W w) : One B c v w := by
  obtain ⟨h1, h2, h3, h4⟩ := h
  exact ⟨h1, Nat.lt_of_lt_of_le h2 hb.2.size, (hb.2.cell (p := ⟨c, 0, none⟩) (Nat.lt_succ_self c)).trans h3, (hb.2.frozen (p := ⟨c, 0, none⟩) (Nat.lt_succ_self c)).trans h4⟩
theorem One.other {B c d : Nat} {v : Value} {w : World} (h : One B c v w) (hd : d ≠ c) (v' : Value) : One B c v (w.setCell ⟨d, 0, none⟩ v') := by
  obtain ⟨h1, h2, h3, h4⟩ := h
  exact ⟨h1, by simpa [World.setCell] using h2, by rw [World.cell?_setCell_other (h := fun e => hd (by injection e))]; exact h3, by rw [World.frozen?_setCell]; exact h4⟩

/-- An operand's three cells. -/
def ArgAt (w : World) (a : Addr) (v : Arg) : Prop :=
  w.cell? a = some (.int .i64 v.kind) ∧ w.cell? ⟨a.block, a.off + 1, none⟩ = some (.int .i64 v.n) ∧ w.cell? ⟨a.block, a.off + 2, none⟩ = some (.int .u64 v.bits)
theorem ArgAt.below {B : Nat} {W w : World} {a : Addr} {v : Arg} (h : ArgAt W a v) (hb : Below B W w) (ha : a.block < B) : ArgAt w a v := by
  obtain ⟨h0, h1, h2⟩ := h
  exact ⟨(hb.cell ha).trans h0, (hb.cell (p := ⟨a.block, a.off + 1, none⟩) ha).trans h1, (hb.cell (p := ⟨a.block, a.off + 2, none⟩) ha).trans h2⟩
/-- The operands of an instruction lie below B. -/
def ArgsAt (B : Nat) (w : World) (d : Ins) : Prop :=
  d.al = d.args.length ∧ d.al ≤ d.ac ∧ d.ac ≤ maxLen ∧ ∀ i (h : i < d.args.length), ∃ a, d.ap = some a ∧ a.block < B ∧ ArgAt w (a.add (i * 3)) d.args[i]
theorem ArgsAt.below {B : Nat} {W w : World} {d : Ins} (h : ArgsAt B W d) (hb : Below B W w) : ArgsAt B w d := by
  obtain ⟨h1, h2, h3, h4⟩ := h
  refine ⟨h1, h2, h3, fun i hi => ?_⟩
  obtain ⟨a, e, ha, hI⟩ := h4 i hi
  exact ⟨a, e, ha, hI.below hb (by rw [add_block]; exact ha)⟩

/-- Is an operand the register? -/
def isU (reg : Int) (v : Arg) : Bool := v.kind == 1 && v.n == reg
def usesIn (reg : Int) (l : List Arg) : Nat := (l.filter (isU reg)).length
def usesOf (reg : Int) (l : List Ins) : Nat := (l.map fun d => usesIn reg d.args).sum
theorem usesIn_le (reg : Int) (l : List Arg) : usesIn reg l ≤ l.length := List.length_filter_le _ _
theorem usesIn_succ (reg : Int) (l : List Arg) (k : Nat) (h : k < l.length) : usesIn reg (l.take (k + 1)) = usesIn reg (l.take k) + if isU reg l[k] then 1 else 0 := by
  unfold usesIn
  rw [List.take_succ_eq_append_getElem h, List.filter_append, List.length_append]
  cases hu : isU reg l[k] <;> simp [hu]
theorem usesOf_snoc (reg : Int) (l : List Ins) (d : Ins) : usesOf reg (l ++ [d]) = usesOf reg l + usesIn reg d.args := by
  unfold usesOf; rw [List.map_append, List.sum_append]; simp

theorem isUse_any (B : Nat) (k n bits reg : Int) (w : World) (hB : B ≤ w.heap.size) :
    Calls Try.prog 58 #[.agg #[.int .i64 k, .int .i64 n, .int .u64 bits], .int .i64 reg] w fun e w' => e = .returned (.bool (k == 1 && n == reg)) ∧ w' = w.alloc (.cells #[.int .i64 k, .int .i64 n, .int .u64 bits] 55) := by
  by_cases hk : k = 1
  · subst hk
    go_enter Try.func58, Try.ntmps58
    go_wp2
    all_goals go_ret
    all_goals exact ⟨ret_bool (by simp_all), rfl⟩
  · have hk' : (k == 1) = false := by simpa using hk
    go_enter Try.func58, Try.ntmps58
    go_wp2
    all_goals go_ret
    all_goals exact ⟨ret_bool (by simp_all), rfl⟩

set_option maxHeartbeats 1000000 in
theorem uses1_any (B c r : Nat) (n reg : Int) (p0 p1 p2 : Int) (d : Ins) (w : World) (hB : B ≤ w.heap.size) (h : One B c (.int .i64 n) w) (hr : One B r (.int .i64 reg) w) (hcr : c ≠ r) (hd : ArgsAt B w d) (h0 : 0 ≤ n)
    (h1 : n + d.args.length < 4611686018427387904) :
    Calls Try.prog 57 #[.agg #[.int .i64 p0, .int .i64 p1, .int .i64 p2], d.val, .pointer (some ⟨r, 0, none⟩), .pointer (some ⟨c, 0, none⟩)] w
      fun e w' => e = .returned (.tuple #[]) ∧ Below B w w' ∧ One B c (.int .i64 (n + usesIn reg d.args)) w' ∧ One B r (.int .i64 reg) w' := by
  obtain ⟨hal, hac, hmx, hargs⟩ := hd
  unfold maxLen at hmx
  have HA := Lib.hid hargs
  obtain ⟨c1, c2, c3, c4⟩ := id h
  obtain ⟨r1, r2, r3, r4⟩ := id hr
  clear hargs
  obtain ⟨op, rg, ty, nn, fl, ap, al, ac, tp, tl, tc, args⟩ := d
  simp only [] at *
  subst hal
  unfold Ins.val
  go_enter Try.func57, Try.ntmps57
  go_wp2_with fail
  have b0 := ((Past.refl hB).alloc (.cells #[.int .i64 p0, .int .i64 p1, .int .i64 p2] 47)).alloc (.cells #[.int .i64 op, .int .i64 rg, .int .i64 ty, .int .i64 nn, .int .i64 fl, .slice ap args.length ac, .slice tp tl tc] 25)
  have o0 := (h.alloc #[.int .i64 p0, .int .i64 p1, .int .i64 p2] 47).alloc #[.int .i64 op, .int .i64 rg, .int .i64 ty, .int .i64 nn, .int .i64 fl, .slice ap args.length ac, .slice tp tl tc] 25
  have q0 := (hr.alloc #[.int .i64 p0, .int .i64 p1, .int .i64 p2] 47).alloc #[.int .i64 op, .int .i64 rg, .int .i64 ty, .int .i64 nn, .int .i64 fl, .slice ap args.length ac, .slice tp tl tc] 25
  clear c1 c2 c3 c4 r1 r2 r3 r4 h hr
  go_loopw [11] (fun t wr => ∃ k : Nat, k ≤ args.length ∧ t = .int .i64 k ∧ Past B w wr ∧ One B c (.int .i64 (n + usesIn reg (args.take k))) wr ∧ One B r (.int .i64 reg) wr) (fun t _ => args.length - (intOf t).toNat)
  case atStart => exact ⟨0, Nat.zero_le _, rfl, b0, by simpa [usesIn] using o0, q0⟩
  case round =>
    obtain ⟨k, hk, rfl, hb, ho, hq⟩ := hrel
    by_cases hlt : k < args.length
    · obtain ⟨a, rfl, ha, hat⟩ := HA.out k hlt
      obtain ⟨f0, f1, f2⟩ := hat.below hb.2 (by rw [add_block]; exact ha)
      obtain ⟨c1, c2, c3, c4⟩ := id ho
      obtain ⟨r1, r2, r3, r4⟩ := id hq
      have hu := usesIn_le reg (args.take k)
      have hu2 : (args.take k).length ≤ args.length := by simp; omega
      have hs := usesIn_succ reg args k hlt
      have ci := fun W => isUse_any 0 args[k].kind args[k].n args[k].bits reg W (Nat.zero_le _)
      have HS := Lib.hid hs
      have b1 := hb.alloc (.cells #[.int .i64 args[k].kind, .int .i64 args[k].n, .int .u64 args[k].bits] 55)
      have o1 := ho.alloc #[.int .i64 args[k].kind, .int .i64 args[k].n, .int .u64 args[k].bits] 55
      have q1 := hq.alloc #[.int .i64 args[k].kind, .int .i64 args[k].n, .int .u64 args[k].bits] 55
      clear hs hat
      cases hI : isU reg args[k]
      · have cj : ∀ W, Calls Try.prog 58 #[.agg #[.int .i64 args[k].kind, .int .i64 args[k].n, .int .u64 args[k].bits], .int .i64 reg] W fun e w' => e = .returned (.bool false) ∧ w' = W.alloc (.cells #[.int .i64 args[k].kind, .int .i64 args[k].n, .int .u64 args[k].bits] 55) := by
          intro W; have := ci W; unfold isU at hI; rw [hI] at this; exact this
        have HI := Lib.hid hI
        clear hI ci
        go_wp2_with ((with_reducible refine (cj _).mono ?_); rintro e w' ⟨rfl, rfl⟩)
        exact ⟨⟨k + 1, by omega, by go_num, b1.alloc _, by rw [HS.out, HI.out]; simpa using o1.alloc _ _, q1.alloc _ _⟩, by simp [intOf]; omega⟩
      · have cj : ∀ W, Calls Try.prog 58 #[.agg #[.int .i64 args[k].kind, .int .i64 args[k].n, .int .u64 args[k].bits], .int .i64 reg] W fun e w' => e = .returned (.bool true) ∧ w' = W.alloc (.cells #[.int .i64 args[k].kind, .int .i64 args[k].n, .int .u64 args[k].bits] 55) := by
          intro W; have := ci W; unfold isU at hI; rw [hI] at this; exact this
        have HI := Lib.hid hI
        clear hI ci
        go_wp2_with ((with_reducible refine (cj _).mono ?_); rintro e w' ⟨rfl, rfl⟩)
        have e1 : (n + (usesIn reg (args.take (k + 1)) : Nat) : Int) = n + (usesIn reg (args.take k) : Nat) + 1 := by rw [HS.out, HI.out]; simp; omega
        exact ⟨⟨k + 1, by omega, by go_num, ((hb.set c1 _).alloc _).alloc _, by rw [e1]; exact ((ho.set _).alloc _ _).alloc _ _, ((hq.other hcr _).alloc _ _).alloc _ _⟩, by simp [intOf]; omega⟩
    · obtain rfl : k = args.length := by omega
      rw [List.take_length] at ho
      go_wp2
      go_end0
      exact ⟨rfl, hb.2, ho, hq⟩

theorem enters_u : ∀ (args : Array Value) (w : World), (callFunc 57 args).run Try.prog w = .ok (.enter 57 args) w := fun _ _ => rfl
/-- Every instruction's operands lie below B. -/
def AllArgs (B : Nat) (w : World) (l : List (List Ins)) : Prop := ∀ b (h : b < l.length) k (hk : k < l[b].length), ArgsAt B w l[b][k]
theorem AllArgs.below {B : Nat} {W w : World} {l : List (List Ins)} (h : AllArgs B W l) (hb : Below B W w) : AllArgs B w l := fun b h1 k h2 => (h b h1 k h2).below hb
/-- How many operands there are. -/
def argsNum (l : List Ins) : Nat := (l.map fun d => d.args.length).sum
theorem usesOf_le (reg : Int) (l : List Ins) : usesOf reg l ≤ argsNum l := by
  induction l with
  | nil => exact Nat.le_refl _
  | cons d l ih =>
    have := usesIn_le reg d.args
    unfold usesOf argsNum at *
    simp only [List.map_cons, List.sum_cons]
    omega
theorem argsNum_snoc (l : List Ins) (d : Ins) : argsNum (l ++ [d]) = argsNum l + d.args.length := by
  unfold argsNum; rw [List.map_append, List.sum_append]; simp
theorem argsNum_app (l m : List Ins) : argsNum (l ++ m) = argsNum l + argsNum m := by
  unfold argsNum; rw [List.map_append, List.sum_append]
theorem ahead_split (l : List (List Ins)) (b k : Nat) (h : b < l.length) (hk : k < l[b].length) : ∃ m, l.flatten = ahead l b k ++ ([l[b][k]] ++ m) := by
  refine ⟨l[b].drop (k + 1) ++ (l.drop (b + 1)).flatten, ?_⟩
  have h1 : l.flatten = (l.take b).flatten ++ (l[b] ++ (l.drop (b + 1)).flatten) := by
    have h1 : l = l.take b ++ l[b] :: l.drop (b + 1) := by rw [List.getElem_cons_drop, List.take_append_drop]
    calc l.flatten = (l.take b ++ l[b] :: l.drop (b + 1)).flatten := by rw [← h1]
      _ = _ := by rw [List.flatten_append, List.flatten_cons]
  have e : l.getD b [] = l[b] := by simp [List.getD_eq_getElem?_getD, h]
  have h2 : l[b] = l[b].take k ++ ([l[b][k]] ++ l[b].drop (k + 1)) := by
    rw [List.singleton_append, List.getElem_cons_drop, List.take_append_drop]
  unfold ahead
  rw [h1, e]
  calc (l.take b).flatten ++ (l[b] ++ (l.drop (b + 1)).flatten) = (l.take b).flatten ++ ((l[b].take k ++ ([l[b][k]] ++ l[b].drop (k + 1))) ++ (l.drop (b + 1)).flatten) := by rw [← h2]
    _ = _ := by simp only [List.append_assoc]

set_option maxHeartbeats 1000000 in
theorem Uses_any (B : Nat) (l : List (List Ins)) (W : World) (rt reg : Int) (s0 : ByteArray) (p1 : Option Addr) (n1 c1 : Nat) (p2 : Option Addr) (n2 c2 : Nat) (hB : B ≤ W.heap.size) (hl : BlocksAt B W (.slice p2 n2 c2) l) (ha : AllArgs B W l) (T : Nat) (eT : usesOf reg l.flatten = T)
    (hT : argsNum l.flatten < 4611686018427387904) :
    Calls Try.prog 31 #[.agg #[.string s0, .slice p1 n1 c1, .int .i64 rt, .slice p2 n2 c2], .int .i64 reg] W fun e w' => e = .returned (.int .i64 T) ∧ Below B W w' := by
  have hmf : ∀ (fn : Fn) (first cap : Array Value) (w : World), (Instr.makeFunc fn first cap).run Try.prog w = .ok (.func fn first cap) w := fun _ _ _ _ => rfl
  have ET := Lib.hid eT
  go_enter Try.func31, Try.ntmps31
  have hb1 : Past B W ((W.alloc (.cells #[.string s0, .slice p1 n1 c1, .int .i64 rt, .slice p2 n2 c2] 41)).alloc (.cells #[.int .i64 reg] 3)) := ((Past.refl hB).alloc _).alloc _
  have hb := hb1.alloc (.cells #[.int .i64 0] 3)
  have hl2 := hl.below hb.2
  have ha2 := ha.below hb.2
  have hq : One B (W.heap.size + 1) (.int .i64 reg) (((W.alloc (.cells #[.string s0, .slice p1 n1 c1, .int .i64 rt, .slice p2 n2 c2] 41)).alloc (.cells #[.int .i64 reg] 3)).alloc (.cells #[.int .i64 0] 3)) := (One.new2 W hB _ _ _ _).alloc _ _
  have ho : One B (W.heap.size + 1 + 1) (.int .i64 ((usesOf reg (ahead l 0 0) : Nat))) (((W.alloc (.cells #[.string s0, .slice p1 n1 c1, .int .i64 rt, .slice p2 n2 c2] 41)).alloc (.cells #[.int .i64 reg] 3)).alloc (.cells #[.int .i64 0] 3)) := by
    have e : (W.alloc (.cells #[.string s0, .slice p1 n1 c1, .int .i64 rt, .slice p2 n2 c2] 41)).heap.size = W.heap.size + 1 := by simp
    have := One.new2 (B := B) (W.alloc (.cells #[.string s0, .slice p1 n1 c1, .int .i64 rt, .slice p2 n2 c2] 41)) (by simp; omega) #[.int .i64 reg] 3 (.int .i64 0) 3
    rw [e] at this
    rw [ahead_0]; exact this
  have he := each_any B l _ (.string s0) (.slice p1 n1 c1) (.int .i64 rt) _ hb.size hl2 57 #[.pointer (some ⟨W.heap.size + 1, 0, none⟩), .pointer (some ⟨W.heap.size + 1 + 1, 0, none⟩)]
    (fun b k w => AllArgs B w l ∧ One B (W.heap.size + 1 + 1) (.int .i64 ((usesOf reg (ahead l b k) : Nat))) w ∧ One B (W.heap.size + 1) (.int .i64 reg) w) enters_u
    ⟨ha2, ho, hq⟩ (fun b h w hw => by rw [ahead_next l b h]; exact hw) (fun b k w c t hw ⟨hA, hO, hQ⟩ => ⟨hA.below ((Past.refl hw).alloc _).2, hO.alloc c t, hQ.alloc c t⟩)
    (fun b k hb hk w hB ⟨hA, hO, hQ⟩ => by
      obtain ⟨m, hm⟩ := ahead_split l b k hb hk
      have hle := usesOf_le reg (ahead l b k)
      have hn : argsNum l.flatten = argsNum (ahead l b k) + (l[b][k].args.length + argsNum m) := by rw [hm, argsNum_app, argsNum_app]; simp [argsNum]
      rw [ahead_succ l b k hb hk, usesOf_snoc]
      refine (uses1_any B _ _ _ _ _ _ _ l[b][k] w hB hO hQ (by omega) (hA b hb k hk) (by omega) (by omega)).mono fun e w' ⟨h1, h2, h3, h4⟩ => ⟨h1, h2, hA.below h2, ?_, h4⟩
      rw [Int.natCast_add]; exact h3)
  clear eT
  go_wp2_with fail
  refine he.mono ?_
  rintro e w2 ⟨rfl, hb2, -, ho2, hq2⟩
  rw [ahead_all, ET.out] at ho2
  clear he ho hT hq hl2 ha2 hq2
  obtain ⟨k1, k2, k3, k4⟩ := id ho2
  go_wp2
  go_ret
  exact ⟨rfl, (hb.trans ⟨hb.size, hb2⟩).2⟩
end Go.Proofs.Ytpfeiolmkbibiaa
