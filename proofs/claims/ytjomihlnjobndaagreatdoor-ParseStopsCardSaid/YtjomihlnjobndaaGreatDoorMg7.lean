/- Several texts in one: LexBase. -/
import Derived.Test.YtjomihlnjobndaaGreatDoorProg
import Derived.Test.YtjomihlnjobndaaGreatDoorShelf
import Derived.WalkKit
import Derived.WalkSpells
import Derived.WalkLawsBesides
import Derived.Below
import Derived.Lib.Hide
import Derived.Lib.Strings
import Derived.Deep.LoopGhost
import Derived.WalkSmall
import Derived.LoopN
import Derived.ScopeJumps
import Derived.WalkMore
import Derived.Deep.Heap
import Derived.Deep.Onto
import Derived.Test.YtjomihlnjobndaaGreatDoorMg6
/- What this seat takes of layer 3's texts (LexBase) -/
namespace Go.Proofs.YtjomihlnjobndaaGreatDoor
open Go.RowKit Go.Maps
set_option linter.unusedVariables false
set_option linter.unusedSimpArgs false

theorem isBlank_any (c : UInt8) (W : World) : Calls Tryz.prog 52 #[.int .u8 (c.toNat : Int)] W fun e w' => e = .returned (.bool (isBlank c)) ∧ w' = W := by
  have hc := c.toNat_lt
  unfold isBlank
  generalize c.toNat = n at *
  go_enter Tryz.func52, Tryz.ntmps52
  go_wp2
  all_goals go_ret
  all_goals refine ⟨ret_bool ?_, rfl⟩
  all_goals (rw [Bool.eq_iff_iff]; simp <;> omega)
theorem isOfLine_any (c : UInt8) (W : World) : Calls Tryz.prog 53 #[.int .u8 (c.toNat : Int)] W fun e w' => e = .returned (.bool (isOfLine c)) ∧ w' = W := by
  have hc := c.toNat_lt
  unfold isOfLine
  generalize c.toNat = n at *
  go_enter Tryz.func53, Tryz.ntmps53
  go_wp2
  all_goals go_ret
  all_goals refine ⟨ret_bool ?_, rfl⟩
  all_goals (rw [Bool.eq_iff_iff]; simp <;> omega)
theorem isMark_any (c : UInt8) (W : World) : Calls Tryz.prog 54 #[.int .u8 (c.toNat : Int)] W fun e w' => e = .returned (.bool (isMark c)) ∧ w' = W := by
  have hc := c.toNat_lt
  unfold isMark
  generalize c.toNat = n at *
  go_enter Tryz.func54, Tryz.ntmps54
  go_wp2
  all_goals go_ret
  all_goals refine ⟨ret_bool ?_, rfl⟩
  all_goals (rw [Bool.eq_iff_iff]; simp <;> omega)
theorem isLetter_any (c : UInt8) (W : World) : Calls Tryz.prog 56 #[.int .u8 (c.toNat : Int)] W fun e w' => e = .returned (.bool (isLetter c)) ∧ w' = W := by
  have hc := c.toNat_lt
  unfold isLetter
  generalize c.toNat = n at *
  go_enter Tryz.func56, Tryz.ntmps56
  go_wp2
  all_goals go_ret
  all_goals refine ⟨ret_bool ?_, rfl⟩
  all_goals (rw [Bool.eq_iff_iff]; simp <;> omega)
theorem isDigit_any (c : UInt8) (W : World) : Calls Tryz.prog 57 #[.int .u8 (c.toNat : Int)] W fun e w' => e = .returned (.bool (isDigit c)) ∧ w' = W := by
  have hc := c.toNat_lt
  unfold isDigit
  generalize c.toNat = n at *
  go_enter Tryz.func57, Tryz.ntmps57
  go_wp2
  all_goals go_ret
  all_goals refine ⟨ret_bool ?_, rfl⟩
  all_goals (rw [Bool.eq_iff_iff]; simp <;> omega)
theorem isOfWord_any (c : UInt8) (W : World) : Calls Tryz.prog 71 #[.int .u8 (c.toNat : Int)] W fun e w' => e = .returned (.bool (isOfWord c)) ∧ w' = W := by
  unfold isOfWord
  have c1 := isLetter_any c
  have c2 := isDigit_any c
  generalize isLetter c = a at *
  generalize isDigit c = b at *
  go_enter Tryz.func71, Tryz.ntmps71
  cases a
  · go_wp2_with (first | ((with_reducible refine (c1 _).mono ?_); rintro e w' ⟨rfl, rfl⟩) | ((with_reducible refine (c2 _).mono ?_); rintro e w' ⟨rfl, rfl⟩))
    go_ret
    exact ⟨by simp, rfl⟩
  · go_wp2_with (first | ((with_reducible refine (c1 _).mono ?_); rintro e w' ⟨rfl, rfl⟩) | ((with_reducible refine (c2 _).mono ?_); rintro e w' ⟨rfl, rfl⟩))
    go_ret
    exact ⟨by simp, rfl⟩
/-- A function value that answers a sort of bytes, whatever the world, and turns nothing. -/
def Sorts (g : FuncId) (p : UInt8 → Bool) : Prop := (∀ (args : Array Value) (w : World), (callFunc g args).run Tryz.prog w = .ok (.enter g args) w) ∧ ∀ (c : UInt8) (w : World), Calls Tryz.prog g #[.int .u8 (c.toNat : Int)] w fun e w' => e = .returned (.bool (p c)) ∧ w' = w
set_option maxRecDepth 100000 in
theorem sort_blank : Sorts 52 isBlank := ⟨fun _ _ => rfl, isBlank_any⟩
set_option maxRecDepth 100000 in
theorem sort_line : Sorts 53 isOfLine := ⟨fun _ _ => rfl, isOfLine_any⟩
set_option maxRecDepth 100000 in
theorem sort_digit : Sorts 57 isDigit := ⟨fun _ _ => rfl, isDigit_any⟩
set_option maxRecDepth 100000 in
theorem sort_word : Sorts 71 isOfWord := ⟨fun _ _ => rfl, isOfWord_any⟩
set_option maxHeartbeats 1000000 in
theorem sizeOf_any (s : ByteArray) (g : FuncId) (p : UInt8 → Bool) (hg : Sorts g p) (hs : s.size < 9223372036854775807) (W : World) :
    Calls Tryz.prog 51 #[.string s, .func (.func g) #[] #[]] W fun e w' => e = .returned (.int .i64 (runOf p s.data.toList : Nat)) ∧ w' = W := by
  obtain ⟨hen, hc⟩ := hg
  have HC := Lib.hid hc
  clear hc
  go_enter Tryz.func51, Tryz.ntmps51
  go_wp2_with fail
  have hL : s.data.toList.length = s.size := (Lib.size_eq s).symm
  have hrl := runOf_le p s.data.toList
  have hre := runOf_end p s.data.toList
  have hra := runOf_at p s.data.toList
  obtain ⟨R, eR⟩ : ∃ R, R = runOf p s.data.toList := ⟨_, rfl⟩
  rw [← eR] at hrl
  have HE := Lib.hid hre
  have HA := Lib.hid hra
  have ER := Lib.hid eR
  clear hre hra eR
  go_loop [5] (fun a => ∃ k : Nat, k ≤ R ∧ a = .int .i64 k) (fun a => R - (intOf a).toNat)
  case atStart => exact ⟨0, Nat.zero_le _, rfl⟩
  case round =>
    obtain ⟨k, hk, rfl⟩ := hrel
    by_cases hkR : k < R
    · have hb : k < s.size := by omega
      have hp : p s[k] = true := by
        obtain ⟨h', hp⟩ := HA.out k (by rw [← ER.out]; exact hkR)
        show p s.data[k] = true
        simpa using hp
      go_wp2_with fail
      refine (HC.out _ _).mono ?_
      rw [hp]
      rintro e w' ⟨rfl, rfl⟩
      go_wp2
      go_round
      case rel => exact ⟨k + 1, by omega, by go_num⟩
      case measure => simp [intOf]; omega
    · obtain rfl : k = R := by omega
      by_cases hb : k < s.size
      · have hp : p s[k] = false := by
          have h := HE.out (by rw [← ER.out]; omega)
          simp only [← ER.out] at h
          show p s.data[k] = false
          simpa using h
        go_wp2_with fail
        refine (HC.out _ _).mono ?_
        rw [hp]
        rintro e w' ⟨rfl, rfl⟩
        go_wp2
        go_ret
        exact ⟨by rw [← ER.out]; rfl, rfl⟩
      · have hb2 : k = s.size := by omega
        subst hb2
        go_wp2
        go_ret
        exact ⟨by rw [← ER.out]; rfl, rfl⟩
/-- A string's bytes from a place on. -/
theorem from_data (s : ByteArray) (a : Nat) : (s.extract a s.size).data.toList = s.data.toList.drop a := by
  rw [Lib.extract_data, List.take_of_length_le]
  rw [List.length_drop, ← Lib.size_eq]
  exact Nat.le_refl _
theorem from_size (s : ByteArray) (a : Nat) : (s.extract a s.size).size = s.size - a := by
  rw [Lib.size_eq, from_data, List.length_drop, ← Lib.size_eq]
theorem cons_of (s : ByteArray) (k : Nat) (h : k < s.size) : s.data.toList.drop k = s[k] :: s.data.toList.drop (k + 1) := by
  have h' : k < s.data.toList.length := by rw [← Lib.size_eq]; exact h
  rw [List.drop_eq_getElem_cons h']
  rfl
theorem empty_iff (s : ByteArray) (b : Bool) (h : decide (s.size = 0) = b) : s.toList.isEmpty = b := by
  rw [Lib.toList_data, ← h, Lib.size_eq]
  cases s.data.toList <;> simp
set_option maxHeartbeats 1000000 in
theorem wordSize_any (s : ByteArray) (hs : s.size < 9223372036854775807) (W : World) :
    Calls Tryz.prog 29 #[.string s] W fun e w' => e = .returned (.int .i64 (wordSize s.data.toList : Nat)) ∧ w' = W := by
  have c1 := sizeOf_any s 71 isOfWord sort_word hs
  by_cases h0 : s.size = 0
  · have hz : s.data.toList = [] := List.length_eq_zero_iff.1 (by rw [← Lib.size_eq]; exact h0)
    have he := empty_iff s true (by simp [h0])
    rw [hz]
    go_enter Tryz.func29, Tryz.ntmps29
    go_wp2_with fail
    go_ret
    exact ⟨rfl, rfl⟩
  · have hp : 0 < s.size := by omega
    have he := empty_iff s false (by simp [h0])
    have hc := cons_of s 0 hp
    rw [List.drop_zero] at hc
    have c2 := isLetter_any s[0]
    have hws : wordSize s.data.toList = if isLetter s[0] then runOf isOfWord s.data.toList else 0 := by
      have : ∀ l (h : l = s[0] :: s.data.toList.drop 1), wordSize l = if isLetter s[0] then runOf isOfWord l else 0 := fun l h => by subst h; rfl
      exact this _ hc
    rw [hws]
    clear hws hc h0
    generalize isLetter s[0] = b at *
    cases b
    · go_enter Tryz.func29, Tryz.ntmps29
      go_wp2_with (first | ((with_reducible refine (c2 _).mono ?_); rintro e w' ⟨rfl, rfl⟩) | ((with_reducible refine (c1 _).mono ?_); rintro e w' ⟨rfl, rfl⟩))
      go_ret
      exact ⟨rfl, rfl⟩
    · go_enter Tryz.func29, Tryz.ntmps29
      go_wp2_with (first | ((with_reducible refine (c2 _).mono ?_); rintro e w' ⟨rfl, rfl⟩) | ((with_reducible refine (c1 _).mono ?_); rintro e w' ⟨rfl, rfl⟩))
      go_ret
      exact ⟨rfl, rfl⟩
set_option maxHeartbeats 1000000 in
theorem passedOver_any (s : ByteArray) (hs : s.size < 4611686018427387904) (W : World) :
    Calls Tryz.prog 19 #[.string s] W fun e w' => e = .returned (.int .i64 (passed s.data.toList : Nat)) ∧ w' = W := by
  have c1 := sizeOf_any s 52 isBlank sort_blank (by omega)
  have hle := runOf_le isBlank s.data.toList
  rw [← Lib.size_eq] at hle
  unfold passed
  generalize runOf isBlank s.data.toList = B at *
  have c2 := sizeOf_any (s.extract B s.size) 53 isOfLine sort_line (by rw [from_size]; omega)
  rw [from_data] at c2
  have hrl := runOf_le isOfLine (s.data.toList.drop B)
  rw [List.length_drop, ← Lib.size_eq] at hrl
  by_cases hB : B < s.size
  · have hc := cons_of s B hB
    rw [hc]
    rw [hc] at c2 hrl
    dsimp only
    generalize runOf isOfLine (s[B] :: s.data.toList.drop (B + 1)) = R at *
    have hne : ((B : Int) == (s.size : Int)) = false := by simp; omega
    clear hc
    by_cases h35 : s[B].toNat = 35
    · rw [if_pos h35]
      have h35' : ((s[B].toNat : Int) != 35) = false := by rw [h35]; rfl
      go_enter Tryz.func19, Tryz.ntmps19
      go_wp2_with (first | ((with_reducible refine (c2 _).mono ?_); rintro e w' ⟨rfl, rfl⟩) | ((with_reducible refine (c1 _).mono ?_); rintro e w' ⟨rfl, rfl⟩))
      go_ret
      exact ⟨ret_int (by simp), rfl⟩
    · rw [if_neg h35]
      have h35' : ((s[B].toNat : Int) != 35) = true := by simp; omega
      go_enter Tryz.func19, Tryz.ntmps19
      go_wp2_with (first | ((with_reducible refine (c2 _).mono ?_); rintro e w' ⟨rfl, rfl⟩) | ((with_reducible refine (c1 _).mono ?_); rintro e w' ⟨rfl, rfl⟩))
      go_ret
      exact ⟨rfl, rfl⟩
  · have hd : s.data.toList.drop B = [] := List.drop_eq_nil_of_le (by rw [← Lib.size_eq]; omega)
    rw [hd]
    have hne : ((B : Int) == (s.size : Int)) = true := by simp; omega
    have hBs : B = s.size := by omega
    clear c2 hrl hd hB
    subst hBs
    go_enter Tryz.func19, Tryz.ntmps19
    go_wp2_with ((with_reducible refine (c1 _).mono ?_); rintro e w' ⟨rfl, rfl⟩)
    go_ret
    exact ⟨rfl, rfl⟩
set_option maxHeartbeats 1000000 in
theorem Word_any (s : ByteArray) (hs : s.size < 9223372036854775807) (W : World) :
    Calls Tryz.prog 12 #[.string s] W fun e w' => e = .returned (.bool (decide (0 < s.size) && decide (wordSize s.data.toList = s.size))) ∧ w' = W := by
  have c1 := wordSize_any s hs
  generalize wordSize s.data.toList = n at *
  by_cases h0 : s.size = 0
  · have he := empty_iff s true (by simp [h0])
    rw [h0]
    go_enter Tryz.func12, Tryz.ntmps12
    go_wp2_with fail
    go_ret
    exact ⟨rfl, rfl⟩
  · have he := empty_iff s false (by simp [h0])
    go_enter Tryz.func12, Tryz.ntmps12
    go_wp2_with ((with_reducible refine (c1 _).mono ?_); rintro e w' ⟨rfl, rfl⟩)
    go_ret
    refine ⟨ret_bool ?_, rfl⟩
    rw [Bool.eq_iff_iff]
    simp
    omega
/-- The two errors of strconv hold something. -/
def Errs (w : World) : Prop := 3 < w.heap.size ∧ 4 < w.heap.size ∧ ∃ (t : TypeId) (p : Value) (t' : TypeId) (p' : Value), w.cell? ⟨3, 0, none⟩ = some (.iface t p) ∧ w.cell? ⟨4, 0, none⟩ = some (.iface t' p')
theorem Errs.below {W w : World} {B : Nat} (h : Errs W) (hb : Below B W w) (hB : W.heap.size ≤ B) : Errs w := by
  obtain ⟨h0, h0', t, p, t', p', h1, h2⟩ := h
  exact ⟨Nat.lt_of_lt_of_le h0 hb.size, Nat.lt_of_lt_of_le h0' hb.size, t, p, t', p', (hb.cell (p := ⟨3, 0, none⟩) (Nat.lt_of_lt_of_le h0 hB)).trans h1, (hb.cell (p := ⟨4, 0, none⟩) (Nat.lt_of_lt_of_le h0' hB)).trans h2⟩
def str (b : List UInt8) : ByteArray := ⟨b.toArray⟩
theorem str_data (s : ByteArray) : str s.data.toList = s := by cases s; simp [str]
theorem str_of (s : ByteArray) (l : List UInt8) (h : s.data.toList = l) : s = str l := by rw [← h, str_data]
def tokV (k : Nat) (b : List UInt8) (line col : Nat) : Value := .agg #[.int .i64 k, .string (str b), .int .i64 line, .int .i64 col]
def cutV : Cut → Value
  | .ok k b s => .tuple #[tokV k b 0 0, .int .i64 s, .int .i64 0]
  | .bad c => .tuple #[tokV 0 [] 0 0, .int .i64 0, .int .i64 c]
theorem Clone_any (s : ByteArray) (hs : s.size ≤ 281474976710656) (W : World) :
    Calls Tryz.prog 103 #[.string s] W fun e w' => e = .returned (.string s) ∧ Below W.heap.size W w' := by
  go_enter Tryz.func103, Tryz.ntmps103
  go_wp2_with ((with_reducible refine (Tryz.stringslite_Clone _ _ hs).mono ?_); rintro e w' ⟨rfl, hb⟩)
  go_ret
  exact ⟨rfl, hb⟩
/-- A block of four cells of the call's own, that may be written. -/
def Four (c : Nat) (v0 v1 v2 v3 : Value) (w : World) : Prop :=
  c < w.heap.size ∧ w.cell? ⟨c, 0, none⟩ = some v0 ∧ w.cell? ⟨c, 1, none⟩ = some v1 ∧ w.cell? ⟨c, 2, none⟩ = some v2 ∧ w.cell? ⟨c, 3, none⟩ = some v3 ∧
  w.frozen? ⟨c, 0, none⟩ = false ∧ w.frozen? ⟨c, 1, none⟩ = false ∧ w.frozen? ⟨c, 2, none⟩ = false ∧ w.frozen? ⟨c, 3, none⟩ = false
theorem Four.new (W : World) (v0 v1 v2 v3 : Value) (t : TypeId) : Four W.heap.size v0 v1 v2 v3 (W.alloc (.cells #[v0, v1, v2, v3] t)) := by
  refine ⟨by simp, ?_, ?_, ?_, ?_, World.frozen?_alloc_at _ _ _ _ rfl, World.frozen?_alloc_at _ _ _ _ rfl, World.frozen?_alloc_at _ _ _ _ rfl, World.frozen?_alloc_at _ _ _ _ rfl⟩ <;> (rw [World.cell?_alloc_at _ _ _ _ rfl]; rfl)
theorem Four.below {c : Nat} {v0 v1 v2 v3 : Value} {W w : World} {B : Nat} (h : Four c v0 v1 v2 v3 W) (hb : Below B W w) (hc : c < B) : Four c v0 v1 v2 v3 w := by
  obtain ⟨z, y0, y1, y2, y3, f0, f1, f2, f3⟩ := h
  exact ⟨Nat.lt_of_lt_of_le z hb.size, (hb.cell (p := ⟨c, 0, none⟩) hc).trans y0, (hb.cell (p := ⟨c, 1, none⟩) hc).trans y1, (hb.cell (p := ⟨c, 2, none⟩) hc).trans y2, (hb.cell (p := ⟨c, 3, none⟩) hc).trans y3,
    (hb.frozen (p := ⟨c, 0, none⟩) hc).trans f0, (hb.frozen (p := ⟨c, 1, none⟩) hc).trans f1, (hb.frozen (p := ⟨c, 2, none⟩) hc).trans f2, (hb.frozen (p := ⟨c, 3, none⟩) hc).trans f3⟩
theorem Four.kept {W w : World} {v0 v1 v2 v3 : Value} {t : TypeId} (hb : Below (W.alloc (.cells #[v0, v1, v2, v3] t)).heap.size (W.alloc (.cells #[v0, v1, v2, v3] t)) w) : Four W.heap.size v0 v1 v2 v3 w :=
  (Four.new W v0 v1 v2 v3 t).below hb (by simp)
/-- From w on, nothing below B has changed. -/
theorem Past.on {B : Nat} {a b c : World} (h : Past B a b) (k : Below b.heap.size b c) : Past B a c := ⟨h.1, h.2.trans (k.mono h.size)⟩
theorem token_any (k : Int) (s : ByteArray) (hs : s.size ≤ 281474976710656) (W : World) :
    Calls Tryz.prog 55 #[.int .i64 k, .string s] W fun e w' => e = .returned (.agg #[.int .i64 k, .string s, .int .i64 0, .int .i64 0]) ∧ Below W.heap.size W w' := by
  have c1 := Clone_any s hs
  have hP := Past.refl (Nat.le_refl W.heap.size)
  go_enter Tryz.func55, Tryz.ntmps55
  go_wp2_with ((with_reducible refine (c1 _).mono ?_); rintro e w' ⟨rfl, hb⟩; obtain ⟨z, y0, y1, y2, y3, f0, f1, f2, f3⟩ := Four.kept hb)
  refine bodyPost_ret (v := .agg #[.int .i64 k, .string s, .int .i64 0, .int .i64 0]) (by simp [results, Tryz.results55, go_sem, y0, y1, y2, y3]) rfl ⟨rfl, ?_⟩
  exact ((((hP.alloc _).on hb).set (a := ⟨W.heap.size, 0, none⟩) (Nat.le_refl _) _).set (a := ⟨W.heap.size, 1, none⟩) (Nat.le_refl _) _ |>.set (a := ⟨W.heap.size, 2, none⟩) (Nat.le_refl _) _ |>.set (a := ⟨W.heap.size, 3, none⟩) (Nat.le_refl _) _).2
theorem number_pass (k : Nat) (l : List UInt8) (m x : Nat) : number k l m x = match number k l m 0 with | .ok k b s => .ok k b (x + s) | .bad c => .bad c := by
  unfold number
  split
  · rfl
  · split
    · split <;> simp
    · rfl
theorem parse_ok (d : ByteArray) (hd : d.size ≤ 281474976710656) (u : Nat) (h : Lib.parseUintB 64 d.data.toList = .ok u) (w : World) :
    Calls Tryz.prog 104 #[.string d, .int .i64 10, .int .i64 64] w fun e w' => e = .returned (.tuple #[.int .u64 u, .nilIface]) ∧ Below w.heap.size w w' := by
  refine (Tryz.strconv_ParseUint_10_at64_ok d (by omega) u h w).mono ?_
  rintro e w' ⟨rfl, hw⟩
  refine ⟨rfl, ?_⟩
  rcases hw with rfl | rfl
  · exact Below.refl _ _
  · exact Lib.bytesWorld_below _ _ _
theorem parse_bad (d : ByteArray) (hd : d.size ≤ 281474976710656) (h : ∀ u, Lib.parseUintB 64 d.data.toList ≠ .ok u) (w : World) (hE : Errs w) :
    Calls Tryz.prog 104 #[.string d, .int .i64 10, .int .i64 64] w fun e w' => ∃ (x : Int) (t : TypeId) (p : Value), e = .returned (.tuple #[.int .u64 x, .iface t p]) ∧ Below w.heap.size w w' := by
  obtain ⟨_, _, t, p, t', p', h1, h2⟩ := hE
  cases hp : Lib.parseUintB 64 d.data.toList
  · exact absurd hp (h _)
  · have c : Calls Tryz.prog 104 #[.string d, .int .i64 10, .int .i64 64] w fun e w' => ∃ N, e = .returned (.tuple #[.int .u64 0, .iface 184 (.pointer (some ⟨N, 0, none⟩))]) ∧ w.heap.size ≤ N ∧ w'.heap[N]? = some (.cells #[.string ⟨#[80, 97, 114, 115, 101, 85, 105, 110, 116]⟩, .string d, .iface t p] 201 (0, 0)) ∧ Below w.heap.size w w' :=
      Any.strconv_ParseUint_10_at64_syntax Tryz.laysPu14 d hd hp _ w h1 (Or.inr ⟨t, p, rfl⟩)
    refine c.mono ?_
    rintro e w' ⟨N, rfl, _, _, hb⟩
    exact ⟨_, _, _, rfl, hb⟩
  · have c : Calls Tryz.prog 104 #[.string d, .int .i64 10, .int .i64 64] w fun e w' => ∃ N, e = .returned (.tuple #[.int .u64 18446744073709551615, .iface 184 (.pointer (some ⟨N, 0, none⟩))]) ∧ w.heap.size ≤ N ∧ w'.heap[N]? = some (.cells #[.string ⟨#[80, 97, 114, 115, 101, 85, 105, 110, 116]⟩, .string d, .iface t' p'] 201 (0, 0)) ∧ Below w.heap.size w w' :=
      Any.strconv_ParseUint_10_at64_range Tryz.laysPu14 d hd hp _ w h2 (Or.inr ⟨t', p', rfl⟩)
    refine c.mono ?_
    rintro e w' ⟨N, rfl, _, _, hb⟩
    exact ⟨_, _, _, rfl, hb⟩
/-- What number makes of the digits d. -/
def numCut (k : Nat) (b : List UInt8) (most : Nat) (n : Nat) : Cut := match Lib.parseUintB 64 b with
  | .ok u => if most < u then .bad 2 else .ok k b (0 + n)
  | _ => .bad 2
set_option maxHeartbeats 2000000 in
theorem number_any (k : Nat) (s : ByteArray) (most : Nat) (hs : s.size ≤ 281474976710656) (hm : most < 18446744073709551616) (W : World) (hE : Errs W) :
    Calls Tryz.prog 58 #[.int .i64 k, .string s, .int .u64 most] W fun e w' => e = .returned (cutV (number k s.data.toList most 0)) ∧ Below W.heap.size W w' := by
  have c1 := sizeOf_any s 57 isDigit sort_digit (by omega)
  have hn := runOf_le isDigit s.data.toList
  rw [← Lib.size_eq] at hn
  have hd : (s.extract 0 (runOf isDigit s.data.toList)).data.toList = s.data.toList.takeWhile isDigit := by rw [Lib.extract_data]; simp [take_runOf]
  have hnum : number k s.data.toList most 0 = if 1 < runOf isDigit s.data.toList ∧ (s.data.toList.head?.map UInt8.toNat) = some 48 then .bad 2 else numCut k (s.data.toList.takeWhile isDigit) most (runOf isDigit s.data.toList) := rfl
  rw [hnum, ← hd]
  have hz : (s.extract 0 (runOf isDigit s.data.toList)).size = runOf isDigit s.data.toList := by rw [Lib.size_eq, hd]; rfl
  have h0 : ∀ (h : 0 < (s.extract 0 (runOf isDigit s.data.toList)).size), (s.data.toList.head?.map UInt8.toNat) = some (s.extract 0 (runOf isDigit s.data.toList))[0].toNat := by
    intro h
    have h2 := cons_of (s.extract 0 (runOf isDigit s.data.toList)) 0 h
    rw [List.drop_zero, hd] at h2
    have h3 : ∀ l x y, List.takeWhile isDigit l = x :: y → l.head? = some x := by
      intro l x y h2
      cases l with
      | nil => simp at h2
      | cons c r =>
        rw [List.takeWhile_cons] at h2
        split at h2
        · injection h2 with h4; rw [List.head?_cons, h4]
        · cases h2
    rw [h3 _ _ _ h2]; rfl
  have hP := Past.refl (Nat.le_refl W.heap.size)
  have hE1 : ∀ v t, Errs (W.alloc (.cells v t)) := fun v t => hE.below (((Past.refl (Nat.le_refl _)).alloc _).2) (Nat.le_refl _)
  clear hd hnum
  generalize hdd : s.extract 0 (runOf isDigit s.data.toList) = d at *
  generalize runOf isDigit s.data.toList = n at *
  generalize s.data.toList.head?.map UInt8.toNat = hh at *
  rcases Nat.lt_or_ge 1 n with h1 | h1
  · have hx : 0 < d.size := by omega
    have h2 := h0 hx
    subst h2
    have h1' : (1 : Int) < (n : Int) := by omega
    by_cases h48 : d[0].toNat = 48
    · have h48' : ((d[0].toNat : Int) == 48) = true := by rw [h48]; rfl
      rw [if_pos ⟨h1, by rw [h48]⟩]
      go_enter Tryz.func58, Tryz.ntmps58
      go_wp2_with ((with_reducible refine (c1 _).mono ?_); rintro e w' ⟨rfl, rfl⟩)
      refine bodyPost_ret (v := cutV (.bad 2)) (by simp [results, Tryz.results58, go_sem, cutV, tokV, str]) rfl ⟨rfl, (hP.alloc _).2⟩
    · have h48' : ((d[0].toNat : Int) == 48) = false := by simp; omega
      rw [if_neg (fun h => h48 (by injection h.2))]
      clear h48 h0 h1
      cases hp : Lib.parseUintB 64 d.data.toList with
      | ok u =>
        have hb64 : u < 18446744073709551616 := by rw [Lib.parseUintB_64] at hp; exact Lib.parseMag_lt hp
        by_cases hu : most < u
        · have hcut : numCut k d.data.toList most n = .bad 2 := by simp [numCut, hp, hu]
          rw [hcut]
          go_enter Tryz.func58, Tryz.ntmps58
          go_wp2_with (first
            | ((with_reducible refine (c1 _).mono ?_); rintro e w' ⟨rfl, rfl⟩)
            | ((with_reducible refine (parse_ok d (by omega) u hp _).mono ?_); rintro e w1 ⟨rfl, hb1⟩; obtain ⟨z, y0, y1, y2, y3, f0, f1, f2, f3⟩ := Four.kept hb1))
          refine bodyPost_ret (v := cutV (.bad 2)) (by simp [results, Tryz.results58, go_sem, cutV, tokV, str, y0, y1, y2, y3]) rfl ⟨rfl, ?_⟩
          exact (((((hP.alloc _).on hb1).set (a := ⟨W.heap.size, 0, none⟩) (Nat.le_refl _) _).set (a := ⟨W.heap.size, 1, none⟩) (Nat.le_refl _) _).set (a := ⟨W.heap.size, 2, none⟩) (Nat.le_refl _) _).set (a := ⟨W.heap.size, 3, none⟩) (Nat.le_refl _) _ |>.2
        · have hcut : numCut k d.data.toList most n = .ok k d.data.toList (0 + n) := by simp [numCut, hp, hu]
          rw [hcut]
          go_enter Tryz.func58, Tryz.ntmps58
          go_wp2_with (first
            | ((with_reducible refine (c1 _).mono ?_); rintro e w' ⟨rfl, rfl⟩)
            | ((with_reducible refine (parse_ok d (by omega) u hp _).mono ?_); rintro e w1 ⟨rfl, hb1⟩; have q1 := Four.kept hb1; obtain ⟨z, y0, y1, y2, y3, f0, f1, f2, f3⟩ := id q1)
            | ((with_reducible refine (token_any k d (by omega) _).mono ?_); rintro e w2 ⟨rfl, hb2⟩; have q2 := q1.below hb2 q1.1; clear y0 y1 y2 y3 f0 f1 f2 f3; obtain ⟨z, y0, y1, y2, y3, f0, f1, f2, f3⟩ := id q2))
          refine bodyPost_ret (v := cutV (.ok k d.data.toList (0 + n))) (by simp [results, Tryz.results58, go_sem, cutV, tokV, str_data, y0, y1, y2, y3]) rfl ⟨rfl, ?_⟩
          exact ((((((hP.alloc _).on hb1).on hb2).set (a := ⟨W.heap.size, 0, none⟩) (Nat.le_refl _) _).set (a := ⟨W.heap.size, 1, none⟩) (Nat.le_refl _) _).set (a := ⟨W.heap.size, 2, none⟩) (Nat.le_refl _) _).set (a := ⟨W.heap.size, 3, none⟩) (Nat.le_refl _) _ |>.2
      | _ =>
        have hcut : numCut k d.data.toList most n = .bad 2 := by simp [numCut, hp]
        rw [hcut]
        have hno : ∀ u, Lib.parseUintB 64 d.data.toList ≠ .ok u := fun u h => by rw [hp] at h; cases h
        go_enter Tryz.func58, Tryz.ntmps58
        go_wp2_with (first
          | ((with_reducible refine (c1 _).mono ?_); rintro e w' ⟨rfl, rfl⟩)
          | ((with_reducible refine (parse_bad d (by omega) hno _ (hE1 _ _)).mono ?_); rintro e w1 ⟨x, tt, pp, rfl, hb1⟩; obtain ⟨z, y0, y1, y2, y3, f0, f1, f2, f3⟩ := Four.kept hb1))
        refine bodyPost_ret (v := cutV (.bad 2)) (by simp [results, Tryz.results58, go_sem, cutV, tokV, str, y0, y1, y2, y3]) rfl ⟨rfl, ?_⟩
        exact (((((hP.alloc _).on hb1).set (a := ⟨W.heap.size, 0, none⟩) (Nat.le_refl _) _).set (a := ⟨W.heap.size, 1, none⟩) (Nat.le_refl _) _).set (a := ⟨W.heap.size, 2, none⟩) (Nat.le_refl _) _).set (a := ⟨W.heap.size, 3, none⟩) (Nat.le_refl _) _ |>.2
  · have hc : ¬ (1 < n ∧ hh = some 48) := fun h => by omega
    have h1' : ¬ ((1 : Int) < (n : Int)) := by omega
    rw [if_neg hc]
    clear h0 hc
    cases hp : Lib.parseUintB 64 d.data.toList with
    | ok u =>
      have hb64 : u < 18446744073709551616 := by rw [Lib.parseUintB_64] at hp; exact Lib.parseMag_lt hp
      by_cases hu : most < u
      · have hcut : numCut k d.data.toList most n = .bad 2 := by simp [numCut, hp, hu]
        rw [hcut]
        go_enter Tryz.func58, Tryz.ntmps58
        go_wp2_with (first
          | ((with_reducible refine (c1 _).mono ?_); rintro e w' ⟨rfl, rfl⟩)
          | ((with_reducible refine (parse_ok d (by omega) u hp _).mono ?_); rintro e w1 ⟨rfl, hb1⟩; obtain ⟨z, y0, y1, y2, y3, f0, f1, f2, f3⟩ := Four.kept hb1))
        refine bodyPost_ret (v := cutV (.bad 2)) (by simp [results, Tryz.results58, go_sem, cutV, tokV, str, y0, y1, y2, y3]) rfl ⟨rfl, ?_⟩
        exact (((((hP.alloc _).on hb1).set (a := ⟨W.heap.size, 0, none⟩) (Nat.le_refl _) _).set (a := ⟨W.heap.size, 1, none⟩) (Nat.le_refl _) _).set (a := ⟨W.heap.size, 2, none⟩) (Nat.le_refl _) _).set (a := ⟨W.heap.size, 3, none⟩) (Nat.le_refl _) _ |>.2
      · have hcut : numCut k d.data.toList most n = .ok k d.data.toList (0 + n) := by simp [numCut, hp, hu]
        rw [hcut]
        go_enter Tryz.func58, Tryz.ntmps58
        go_wp2_with (first
          | ((with_reducible refine (c1 _).mono ?_); rintro e w' ⟨rfl, rfl⟩)
          | ((with_reducible refine (parse_ok d (by omega) u hp _).mono ?_); rintro e w1 ⟨rfl, hb1⟩; have q1 := Four.kept hb1; obtain ⟨z, y0, y1, y2, y3, f0, f1, f2, f3⟩ := id q1)
          | ((with_reducible refine (token_any k d (by omega) _).mono ?_); rintro e w2 ⟨rfl, hb2⟩; have q2 := q1.below hb2 q1.1; clear y0 y1 y2 y3 f0 f1 f2 f3; obtain ⟨z, y0, y1, y2, y3, f0, f1, f2, f3⟩ := id q2))
        refine bodyPost_ret (v := cutV (.ok k d.data.toList (0 + n))) (by simp [results, Tryz.results58, go_sem, cutV, tokV, str_data, y0, y1, y2, y3]) rfl ⟨rfl, ?_⟩
        exact ((((((hP.alloc _).on hb1).on hb2).set (a := ⟨W.heap.size, 0, none⟩) (Nat.le_refl _) _).set (a := ⟨W.heap.size, 1, none⟩) (Nat.le_refl _) _).set (a := ⟨W.heap.size, 2, none⟩) (Nat.le_refl _) _).set (a := ⟨W.heap.size, 3, none⟩) (Nat.le_refl _) _ |>.2
    | _ =>
      have hcut : numCut k d.data.toList most n = .bad 2 := by simp [numCut, hp]
      rw [hcut]
      have hno : ∀ u, Lib.parseUintB 64 d.data.toList ≠ .ok u := fun u h => by rw [hp] at h; cases h
      go_enter Tryz.func58, Tryz.ntmps58
      go_wp2_with (first
        | ((with_reducible refine (c1 _).mono ?_); rintro e w' ⟨rfl, rfl⟩)
        | ((with_reducible refine (parse_bad d (by omega) hno _ (hE1 _ _)).mono ?_); rintro e w1 ⟨x, tt, pp, rfl, hb1⟩; obtain ⟨z, y0, y1, y2, y3, f0, f1, f2, f3⟩ := Four.kept hb1))
      refine bodyPost_ret (v := cutV (.bad 2)) (by simp [results, Tryz.results58, go_sem, cutV, tokV, str, y0, y1, y2, y3]) rfl ⟨rfl, ?_⟩
      exact (((((hP.alloc _).on hb1).set (a := ⟨W.heap.size, 0, none⟩) (Nat.le_refl _) _).set (a := ⟨W.heap.size, 1, none⟩) (Nat.le_refl _) _).set (a := ⟨W.heap.size, 2, none⟩) (Nat.le_refl _) _).set (a := ⟨W.heap.size, 3, none⟩) (Nat.le_refl _) _ |>.2
theorem upto_data (s : ByteArray) (a : Nat) : (s.extract 0 a).data.toList = s.data.toList.take a := by rw [Lib.extract_data]; simp
theorem upto_size (s : ByteArray) (a : Nat) (h : a ≤ s.size) : (s.extract 0 a).size = a := by
  rw [Lib.size_eq, upto_data, List.length_take, ← Lib.size_eq, Nat.min_eq_left h]
theorem mid_data (s : ByteArray) (a b : Nat) : (s.extract a b).data.toList = (s.data.toList.drop a).take (b - a) := by
  rw [Lib.extract_data]
theorem mid_size (s : ByteArray) (a b : Nat) (h : b ≤ s.size) : (s.extract a b).size = b - a := by
  rw [Lib.size_eq, mid_data, List.length_take, List.length_drop, ← Lib.size_eq, Nat.min_eq_left (by omega)]
theorem Past.set4 {B : Nat} {W w : World} {c : Nat} (h : Past B W w) (hc : B ≤ c) (v0 v1 v2 v3 : Value) : Past B W ((((w.setCell ⟨c, 0, none⟩ v0).setCell ⟨c, 1, none⟩ v1).setCell ⟨c, 2, none⟩ v2).setCell ⟨c, 3, none⟩ v3) :=
  (((h.set (a := ⟨c, 0, none⟩) hc _).set (a := ⟨c, 1, none⟩) hc _).set (a := ⟨c, 2, none⟩) hc _).set (a := ⟨c, 3, none⟩) hc _
/-- What first hands back: beside an error the size means nothing. -/
def cutW (x : Nat) : Cut → Value
  | .ok k b s => .tuple #[tokV k b 0 0, .int .i64 s, .int .i64 0]
  | .bad c => .tuple #[tokV 0 [] 0 0, .int .i64 x, .int .i64 c]
theorem Four.set4 {c : Nat} {v0 v1 v2 v3 : Value} {w : World} (h : Four c v0 v1 v2 v3 w) (u0 u1 u2 u3 : Value) : Four c u0 u1 u2 u3 ((((w.setCell ⟨c, 0, none⟩ u0).setCell ⟨c, 1, none⟩ u1).setCell ⟨c, 2, none⟩ u2).setCell ⟨c, 3, none⟩ u3) := by
  obtain ⟨z, y0, y1, y2, y3, f0, f1, f2, f3⟩ := h
  refine ⟨by simpa [World.setCell] using z, ?_, ?_, ?_, ?_, ?_, ?_, ?_, ?_⟩ <;> simp [World.frozen?_setCell, go_sem, y0, y1, y2, y3, f0, f1, f2, f3]
theorem Four.alloc {c : Nat} {v0 v1 v2 v3 : Value} {w : World} (h : Four c v0 v1 v2 v3 w) (o : Obj) : Four c v0 v1 v2 v3 (w.alloc o) :=
  h.below ((Below.refl w.heap.size w).alloc (Nat.le_refl _) o) h.1
theorem number2 (s : ByteArray) (hs : s.size ≤ 281474976710656) (W : World) (hE : Errs W) :
    Calls Tryz.prog 58 #[.int .i64 2, .string s, .int .u64 18446744073709551615] W fun e w' => e = .returned (cutV (number 2 s.data.toList 18446744073709551615 0)) ∧ Below W.heap.size W w' :=
  number_any 2 s 18446744073709551615 hs (by omega) W hE
theorem number3 (s : ByteArray) (hs : s.size ≤ 281474976710656) (W : World) (hE : Errs W) :
    Calls Tryz.prog 58 #[.int .i64 3, .string s, .int .u64 4095] W fun e w' => e = .returned (cutV (number 3 s.data.toList 4095 0)) ∧ Below W.heap.size W w' :=
  number_any 3 s 4095 hs (by omega) W hE
set_option maxRecDepth 100000 in
set_option maxHeartbeats 4000000 in
theorem first_any (s : ByteArray) (h0 : 0 < s.size) (hs : s.size ≤ 281474976710656) (W : World) (hE : Errs W) :
    Calls Tryz.prog 20 #[.string s] W fun e w' => (∃ x : Nat, e = .returned (cutW x (first s.data.toList))) ∧ Below W.heap.size W w' := by
  have hl := cons_of s 0 h0
  rw [List.drop_zero] at hl
  have cm := isMark_any s[0]
  have cl := isLetter_any s[0]
  have cd := isDigit_any s[0]
  have hP := Past.refl (Nat.le_refl W.heap.size)
  have hE1 : ∀ v t, Errs (W.alloc (.cells v t)) := fun v t => hE.below (((Past.refl (Nat.le_refl _)).alloc _).2) (Nat.le_refl _)
  have hf : ∀ l (h : l = s[0] :: s.data.toList.drop 1), first l = if s[0].toNat = 10 then .ok 6 [] 1
    else if isMark s[0] then .ok 5 [s[0]] 1
    else if isLetter s[0] then .ok 1 (l.take (wordSize l)) (wordSize l)
    else if isDigit s[0] then number 2 l 18446744073709551615 0
    else if s[0].toNat = 37 then number 3 (l.drop 1) 4095 1
    else if s[0].toNat = 64 ∧ 0 < wordSize (l.drop 1) then .ok 4 ((l.drop 1).take (wordSize (l.drop 1))) (1 + wordSize (l.drop 1))
    else .bad 1 := fun l h => by subst h; rfl
  rw [hf _ hl]
  clear hf
  by_cases h10 : s[0].toNat = 10
  · have k10 : ((s[0].toNat : Int) == 10) = true := by rw [h10]; rfl
    rw [if_pos h10]
    have eV : ∀ x : Nat, cutW x (.ok 6 [] 1) = .tuple #[.agg #[.int .i64 6, .string ⟨#[]⟩, .int .i64 0, .int .i64 0], .int .i64 1, .int .i64 0] := fun _ => rfl
    simp only [eV]
    go_enter Tryz.func20, Tryz.ntmps20
    go_wp2_with fail
    refine bodyPost_ret (v := .tuple #[.agg #[.int .i64 6, .string ⟨#[]⟩, .int .i64 0, .int .i64 0], .int .i64 1, .int .i64 0]) (by simp [results, Tryz.results20, go_sem]) rfl ⟨⟨0, rfl⟩, (hP.alloc _).2⟩
  · have k10 : ((s[0].toNat : Int) == 10) = false := by simp; omega
    rw [if_neg h10]
    clear h10
    cases hm : isMark s[0] with
    | true =>
      rw [hm] at cm
      rw [if_pos rfl]
      have c1 := token_any 5 (s.extract 0 1) (by rw [upto_size s 1 h0]; omega)
      have h1 : (1 : Int) ≤ (s.size : Int) := by omega
      have e1 : str [s[0]] = s.extract 0 1 := (str_of _ _ (by rw [upto_data, hl]; rfl)).symm
      have eV : ∀ x : Nat, cutW x (.ok 5 [s[0]] 1) = .tuple #[.agg #[.int .i64 5, .string (s.extract 0 1), .int .i64 0, .int .i64 0], .int .i64 1, .int .i64 0] := fun _ => by rw [cutW, tokV, e1]; rfl
      simp only [eV]
      go_enter Tryz.func20, Tryz.ntmps20
      go_wp2_with (first
        | ((with_reducible refine (cm _).mono ?_); rintro e w' ⟨rfl, rfl⟩)
        | ((with_reducible refine (c1 _).mono ?_); rintro e w1 ⟨rfl, hb1⟩; obtain ⟨z, y0, y1, y2, y3, f0, f1, f2, f3⟩ := Four.kept hb1))
      refine bodyPost_ret (v := .tuple #[.agg #[.int .i64 5, .string (s.extract 0 1), .int .i64 0, .int .i64 0], .int .i64 1, .int .i64 0]) (by simp [results, Tryz.results20, go_sem, y0, y1, y2, y3]) rfl ⟨⟨0, rfl⟩, (((hP.alloc _).on hb1).set4 (Nat.le_refl _) _ _ _ _).2⟩
    | false =>
      rw [hm] at cm
      rw [if_neg (by simp)]
      cases hlt : isLetter s[0] with
      | true =>
        rw [hlt] at cl
        rw [if_pos rfl]
        have cw := wordSize_any s (by omega)
        have hw := wordSize_le s.data.toList
        rw [← Lib.size_eq] at hw
        have hd2 := upto_data s (wordSize s.data.toList)
        rw [← hd2]
        generalize wordSize s.data.toList = n at *
        have c1 := token_any 1 (s.extract 0 n) (by rw [upto_size s n hw]; omega)
        have h1 : (n : Int) ≤ (s.size : Int) := by omega
        have eV : ∀ x : Nat, cutW x (.ok 1 (s.extract 0 n).data.toList n) = .tuple #[.agg #[.int .i64 1, .string (s.extract 0 n), .int .i64 0, .int .i64 0], .int .i64 n, .int .i64 0] := fun _ => by rw [cutW, tokV, str_data]; rfl
        simp only [eV]
        go_enter Tryz.func20, Tryz.ntmps20
        go_wp2_with (first
          | ((with_reducible refine (cm _).mono ?_); rintro e w' ⟨rfl, rfl⟩)
          | ((with_reducible refine (cl _).mono ?_); rintro e w' ⟨rfl, rfl⟩)
          | ((with_reducible refine (cw _).mono ?_); rintro e w' ⟨rfl, rfl⟩)
          | ((with_reducible refine (c1 _).mono ?_); rintro e w1 ⟨rfl, hb1⟩; obtain ⟨z, y0, y1, y2, y3, f0, f1, f2, f3⟩ := Four.kept hb1))
        refine bodyPost_ret (v := .tuple #[.agg #[.int .i64 1, .string (s.extract 0 n), .int .i64 0, .int .i64 0], .int .i64 n, .int .i64 0]) (by simp [results, Tryz.results20, go_sem, y0, y1, y2, y3]) rfl ⟨⟨0, rfl⟩, (((hP.alloc _).on hb1).set4 (Nat.le_refl _) _ _ _ _).2⟩
      | false =>
        rw [hlt] at cl
        rw [if_neg (by simp)]
        cases hdg : isDigit s[0] with
        | true =>
          rw [hdg] at cd
          rw [if_pos rfl]
          have cn := number2 s hs _ (hE1 #[.int .i64 0, .string ⟨#[]⟩, .int .i64 0, .int .i64 0] 30)
          cases hq : number 2 s.data.toList 18446744073709551615 0 with
          | ok k b z =>
            rw [hq] at cn
            have eN : cutV (.ok k b z) = .tuple #[.agg #[.int .i64 k, .string (str b), .int .i64 0, .int .i64 0], .int .i64 z, .int .i64 0] := rfl
            have eV : ∀ x : Nat, cutW x (.ok k b z) = .tuple #[.agg #[.int .i64 k, .string (str b), .int .i64 0, .int .i64 0], .int .i64 z, .int .i64 0] := fun _ => rfl
            rw [eN] at cn
            simp only [eV]
            go_enter Tryz.func20, Tryz.ntmps20
            go_wp2_with (first
              | ((with_reducible refine (cm _).mono ?_); rintro e w' ⟨rfl, rfl⟩)
              | ((with_reducible refine (cl _).mono ?_); rintro e w' ⟨rfl, rfl⟩)
              | ((with_reducible refine (cd _).mono ?_); rintro e w' ⟨rfl, rfl⟩)
              | ((with_reducible refine cn.mono ?_); rintro e w1 ⟨rfl, hb1⟩; obtain ⟨zz, y0, y1, y2, y3, f0, f1, f2, f3⟩ := Four.kept hb1))
            refine bodyPost_ret (v := .tuple #[.agg #[.int .i64 k, .string (str b), .int .i64 0, .int .i64 0], .int .i64 z, .int .i64 0]) (by simp [results, Tryz.results20, go_sem, y0, y1, y2, y3]) rfl ⟨⟨0, rfl⟩, (((hP.alloc _).on hb1).set4 (Nat.le_refl _) _ _ _ _).2⟩
          | bad c =>
            rw [hq] at cn
            have eN : cutV (.bad c) = .tuple #[.agg #[.int .i64 0, .string ⟨#[]⟩, .int .i64 0, .int .i64 0], .int .i64 0, .int .i64 c] := rfl
            have eV : ∀ x : Nat, cutW x (.bad c) = .tuple #[.agg #[.int .i64 0, .string ⟨#[]⟩, .int .i64 0, .int .i64 0], .int .i64 (x : Nat), .int .i64 c] := fun _ => rfl
            rw [eN] at cn
            simp only [eV]
            go_enter Tryz.func20, Tryz.ntmps20
            go_wp2_with (first
              | ((with_reducible refine (cm _).mono ?_); rintro e w' ⟨rfl, rfl⟩)
              | ((with_reducible refine (cl _).mono ?_); rintro e w' ⟨rfl, rfl⟩)
              | ((with_reducible refine (cd _).mono ?_); rintro e w' ⟨rfl, rfl⟩)
              | ((with_reducible refine cn.mono ?_); rintro e w1 ⟨rfl, hb1⟩; obtain ⟨zz, y0, y1, y2, y3, f0, f1, f2, f3⟩ := Four.kept hb1))
            refine bodyPost_ret (v := .tuple #[.agg #[.int .i64 0, .string (⟨#[]⟩), .int .i64 0, .int .i64 0], .int .i64 0, .int .i64 c]) (by simp [results, Tryz.results20, go_sem, y0, y1, y2, y3]) rfl ⟨⟨0, rfl⟩, (((hP.alloc _).on hb1).set4 (Nat.le_refl _) _ _ _ _).2⟩
        | false =>
          rw [hdg] at cd
          rw [if_neg (by simp)]
          by_cases h37 : s[0].toNat = 37
          · have k37 : ((s[0].toNat : Int) == 37) = true := by rw [h37]; rfl
            rw [if_pos h37]
            clear h37
            have hd2 := from_data s 1
            rw [← hd2, number_pass]
            have cn := number3 (s.extract 1 s.size) (by rw [from_size]; omega) _ (hE1 #[.int .i64 0, .string ⟨#[]⟩, .int .i64 0, .int .i64 0] 30)
            cases hq : number 3 (s.extract 1 s.size).data.toList 4095 0 with
            | ok k b z =>
              have hz := (number_size hq).2.2.1
              have hr := runOf_le isDigit (s.extract 1 s.size).data.toList
              rw [← Lib.size_eq, from_size] at hr
              have hzb : z ≤ 281474976710656 := by omega
              clear hr hz
              rw [hq] at cn
              have eN : cutV (.ok k b z) = .tuple #[.agg #[.int .i64 k, .string (str b), .int .i64 0, .int .i64 0], .int .i64 z, .int .i64 0] := rfl
              have eV : ∀ x : Nat, cutW x (.ok k b z) = .tuple #[.agg #[.int .i64 k, .string (str b), .int .i64 0, .int .i64 0], .int .i64 z, .int .i64 0] := fun _ => rfl
              have eV2 : ∀ x : Nat, cutW x (.ok k b (1 + z)) = .tuple #[.agg #[.int .i64 k, .string (str b), .int .i64 0, .int .i64 0], .int .i64 (1 + (z : Int)), .int .i64 0] := fun _ => by simp [cutW, tokV]
              rw [eN] at cn
              dsimp only
              simp only [eV2]
              go_enter Tryz.func20, Tryz.ntmps20
              go_wp2_with (first
                | ((with_reducible refine (cm _).mono ?_); rintro e w' ⟨rfl, rfl⟩)
                | ((with_reducible refine (cl _).mono ?_); rintro e w' ⟨rfl, rfl⟩)
                | ((with_reducible refine (cd _).mono ?_); rintro e w' ⟨rfl, rfl⟩)
                | ((with_reducible refine cn.mono ?_); rintro e w1 ⟨rfl, hb1⟩; obtain ⟨zz, y0, y1, y2, y3, f0, f1, f2, f3⟩ := Four.kept hb1))
              obtain ⟨_, r0, r1, r2, r3, _⟩ := ((Four.kept hb1).set4 (.int .i64 k) (.string (str b)) (.int .i64 0) (.int .i64 0)).alloc (.cells #[.int .i64 k, .string (str b), .int .i64 0, .int .i64 0] 30)
              refine bodyPost_ret (v := .tuple #[.agg #[.int .i64 k, .string (str b), .int .i64 0, .int .i64 0], .int .i64 (1 + (z : Int)), .int .i64 0]) (by simp [results, Tryz.results20, go_sem, r0, r1, r2, r3]) rfl ⟨⟨0, rfl⟩, ((((hP.alloc _).on hb1).set4 (Nat.le_refl _) _ _ _ _).alloc _).2⟩
            | bad c =>
              rw [hq] at cn
              have eN : cutV (.bad c) = .tuple #[.agg #[.int .i64 0, .string ⟨#[]⟩, .int .i64 0, .int .i64 0], .int .i64 0, .int .i64 c] := rfl
              have eV : ∀ x : Nat, cutW x (.bad c) = .tuple #[.agg #[.int .i64 0, .string ⟨#[]⟩, .int .i64 0, .int .i64 0], .int .i64 (x : Nat), .int .i64 c] := fun _ => rfl
              rw [eN] at cn
              show Calls Tryz.prog 20 #[.string s] W fun e w' => (∃ x : Nat, e = .returned (cutW x (.bad c))) ∧ Below W.heap.size W w'
              simp only [eV]
              go_enter Tryz.func20, Tryz.ntmps20
              go_wp2_with (first
                | ((with_reducible refine (cm _).mono ?_); rintro e w' ⟨rfl, rfl⟩)
                | ((with_reducible refine (cl _).mono ?_); rintro e w' ⟨rfl, rfl⟩)
                | ((with_reducible refine (cd _).mono ?_); rintro e w' ⟨rfl, rfl⟩)
                | ((with_reducible refine cn.mono ?_); rintro e w1 ⟨rfl, hb1⟩; obtain ⟨zz, y0, y1, y2, y3, f0, f1, f2, f3⟩ := Four.kept hb1))
              obtain ⟨_, r0, r1, r2, r3, _⟩ := ((Four.kept hb1).set4 (.int .i64 0) (.string ⟨#[]⟩) (.int .i64 0) (.int .i64 0)).alloc (.cells #[.int .i64 0, .string ⟨#[]⟩, .int .i64 0, .int .i64 0] 30)
              refine bodyPost_ret (v := .tuple #[.agg #[.int .i64 0, .string ⟨#[]⟩, .int .i64 0, .int .i64 0], .int .i64 1, .int .i64 c]) (by simp [results, Tryz.results20, go_sem, r0, r1, r2, r3]) rfl ⟨⟨1, rfl⟩, ((((hP.alloc _).on hb1).set4 (Nat.le_refl _) _ _ _ _).alloc _).2⟩
          · have k37 : ((s[0].toNat : Int) == 37) = false := by simp; omega
            rw [if_neg h37]
            clear h37
            by_cases h64 : s[0].toNat = 64
            · have k64 : ((s[0].toNat : Int) == 64) = true := by rw [h64]; rfl
              have hd2 := from_data s 1
              rw [← hd2]
              have cw := wordSize_any (s.extract 1 s.size) (by rw [from_size]; omega)
              have hw := wordSize_le (s.extract 1 s.size).data.toList
              rw [← Lib.size_eq, from_size] at hw
              have hmd := mid_data s 1 (1 + wordSize (s.extract 1 s.size).data.toList)
              rw [Nat.add_sub_cancel_left, ← hd2] at hmd
              have h1s : (1 : Int) ≤ (s.size : Int) := by omega
              by_cases hwp : 0 < wordSize (s.extract 1 s.size).data.toList
              · rw [if_pos ⟨h64, hwp⟩, ← hmd]
                clear h64 hmd
                generalize wordSize (s.extract 1 s.size).data.toList = n at *
                have hwp' : (0 : Int) < (n : Int) := by omega
                have hns : 1 + (n : Int) ≤ (s.size : Int) := by omega
                have c1 := token_any 4 (s.extract 1 (1 + n)) (by rw [mid_size s 1 (1 + n) (by omega)]; omega)
                have eV : ∀ x : Nat, cutW x (.ok 4 (s.extract 1 (1 + n)).data.toList (1 + n)) = .tuple #[.agg #[.int .i64 4, .string (s.extract 1 (1 + n)), .int .i64 0, .int .i64 0], .int .i64 (1 + (n : Int)), .int .i64 0] := fun _ => by rw [cutW, tokV, str_data, Int.natCast_add]; rfl
                simp only [eV]
                go_enter Tryz.func20, Tryz.ntmps20
                go_wp2_with (first
                  | ((with_reducible refine (cm _).mono ?_); rintro e w' ⟨rfl, rfl⟩)
                  | ((with_reducible refine (cl _).mono ?_); rintro e w' ⟨rfl, rfl⟩)
                  | ((with_reducible refine (cd _).mono ?_); rintro e w' ⟨rfl, rfl⟩)
                  | ((with_reducible refine (cw _).mono ?_); rintro e w' ⟨rfl, rfl⟩)
                  | ((with_reducible refine (c1 _).mono ?_); rintro e w1 ⟨rfl, hb1⟩; obtain ⟨z, y0, y1, y2, y3, f0, f1, f2, f3⟩ := Four.kept hb1))
                refine bodyPost_ret (v := .tuple #[.agg #[.int .i64 4, .string (s.extract 1 (1 + n)), .int .i64 0, .int .i64 0], .int .i64 (1 + (n : Int)), .int .i64 0]) (by simp [results, Tryz.results20, go_sem, y0, y1, y2, y3]) rfl ⟨⟨0, rfl⟩, (((hP.alloc _).on hb1).set4 (Nat.le_refl _) _ _ _ _).2⟩
              · rw [if_neg (fun h => hwp h.2)]
                have h0w : wordSize (s.extract 1 s.size).data.toList = 0 := by omega
                have cw : ∀ W : World, Calls Tryz.prog 29 #[.string (s.extract 1 s.size)] W fun e w' => e = .returned (.int .i64 0) ∧ w' = W := fun W => by have h := cw W; rw [h0w] at h; exact h
                clear hmd hw h64
                have eV : ∀ x : Nat, cutW x (.bad 1) = .tuple #[.agg #[.int .i64 0, .string ⟨#[]⟩, .int .i64 0, .int .i64 0], .int .i64 (x : Nat), .int .i64 1] := fun _ => rfl
                simp only [eV]
                go_enter Tryz.func20, Tryz.ntmps20
                go_wp2_with (first
                  | ((with_reducible refine (cm _).mono ?_); rintro e w' ⟨rfl, rfl⟩)
                  | ((with_reducible refine (cl _).mono ?_); rintro e w' ⟨rfl, rfl⟩)
                  | ((with_reducible refine (cd _).mono ?_); rintro e w' ⟨rfl, rfl⟩)
                  | ((with_reducible refine (cw _).mono ?_); rintro e w' ⟨rfl, rfl⟩))
                refine bodyPost_ret (v := .tuple #[.agg #[.int .i64 0, .string ⟨#[]⟩, .int .i64 0, .int .i64 0], .int .i64 0, .int .i64 1]) (by simp [results, Tryz.results20, go_sem]) rfl ⟨⟨0, rfl⟩, (hP.alloc _).2⟩
            · have k64 : ((s[0].toNat : Int) == 64) = false := by simp; omega
              rw [if_neg (fun h => h64 h.1)]
              have eV : ∀ x : Nat, cutW x (.bad 1) = .tuple #[.agg #[.int .i64 0, .string ⟨#[]⟩, .int .i64 0, .int .i64 0], .int .i64 (x : Nat), .int .i64 1] := fun _ => rfl
              simp only [eV]
              go_enter Tryz.func20, Tryz.ntmps20
              go_wp2_with (first
                | ((with_reducible refine (cm _).mono ?_); rintro e w' ⟨rfl, rfl⟩)
                | ((with_reducible refine (cl _).mono ?_); rintro e w' ⟨rfl, rfl⟩)
                | ((with_reducible refine (cd _).mono ?_); rintro e w' ⟨rfl, rfl⟩))
              refine bodyPost_ret (v := .tuple #[.agg #[.int .i64 0, .string ⟨#[]⟩, .int .i64 0, .int .i64 0], .int .i64 0, .int .i64 1]) (by simp [results, Tryz.results20, go_sem]) rfl ⟨⟨0, rfl⟩, (hP.alloc _).2⟩
theorem wp_scope_again {P : Program} {a : Act} {w : World} {Q : Exit → Act → World → Prop} {c r : Code} (l : Nat) (J : Act → World → Prop) (μ : Act → World → Nat) (hf : findLabel c l = some (.seq .skip r))
    (pass : ∀ a w, J a w → r.wp P (Exit.jump l (fun a' w' => J a' w' ∧ μ a' w' < μ a w) Q) a w)
    (first : (∀ a w, J a w → r.wp P (Exit.jump l J Q) a w) → c.wp P (Exit.jump l J Q) a w) : (Code.scope c).wp P Q a w := by
  refine wp_scope_jumps l J μ hf (first fun a w h => Code.wp_mono ?_ (pass a w h)) (fun a w h => wp_seq (wp_skip (pass a w h)))
  intro e a' w' h
  cases e <;> first | exact h | exact ⟨h.1, h.2.1⟩
def tokC (t : Tok) : List Value := [.int .i64 t.kind, .string (str t.body), .int .i64 t.line, .int .i64 t.col]
def fltV : Option Flt → Value
  | none => .agg #[.int .i64 0, .int .i64 0, .int .i64 0]
  | some f => .agg #[.int .i64 f.code, .int .i64 f.line, .int .i64 f.col]
/-- What is answered: no piece beside a fault. -/
def Toks (l : List UInt8) (ts : List Tok) (f : Option Flt) : Prop :=
  (65536 < l.length ∧ ts = [] ∧ f = some ⟨6, 0, 0⟩) ∨ (l.length ≤ 65536 ∧ ∃ ts', Lexed l 1 1 ts' f ∧ ts = if f.isNone then ts' else [])
theorem Toks.unique {l ts f ts' f'} (h : Toks l ts f) (h' : Toks l ts' f') : ts = ts' ∧ f = f' := by
  rcases h with ⟨h1, rfl, rfl⟩ | ⟨h1, t, h2, rfl⟩
  · rcases h' with ⟨_, rfl, rfl⟩ | ⟨h3, _⟩
    · exact ⟨rfl, rfl⟩
    · omega
  · rcases h' with ⟨h3, _⟩ | ⟨_, t', h4, rfl⟩
    · omega
    · obtain ⟨rfl, rfl⟩ := h2.unique h4
      exact ⟨rfl, rfl⟩
/-- How Tokens ends. -/
def TokEnds (W : World) (l : List UInt8) (e : Ending) (w : World) : Prop :=
  ∃ (ts : List Tok) (f : Option Flt) (v : Value), Toks l ts f ∧ e = .returned (.tuple #[v, fltV f]) ∧ Below W.heap.size W w ∧ w.ownsRow W.heap.size 30 4 v ts.length (ts.flatMap tokC)
/-- A block of three cells of the call's own, that may be written. -/
def Three (c : Nat) (v0 v1 v2 : Value) (w : World) : Prop :=
  c < w.heap.size ∧ w.cell? ⟨c, 0, none⟩ = some v0 ∧ w.cell? ⟨c, 1, none⟩ = some v1 ∧ w.cell? ⟨c, 2, none⟩ = some v2 ∧ w.frozen? ⟨c, 0, none⟩ = false ∧ w.frozen? ⟨c, 1, none⟩ = false ∧ w.frozen? ⟨c, 2, none⟩ = false
theorem Three.new (W : World) (v0 v1 v2 : Value) (t : TypeId) : Three W.heap.size v0 v1 v2 (W.alloc (.cells #[v0, v1, v2] t)) := by
  refine ⟨by simp, ?_, ?_, ?_, World.frozen?_alloc_at _ _ _ _ rfl, World.frozen?_alloc_at _ _ _ _ rfl, World.frozen?_alloc_at _ _ _ _ rfl⟩ <;> (rw [World.cell?_alloc_at _ _ _ _ rfl]; rfl)
theorem Three.below {c : Nat} {v0 v1 v2 : Value} {W w : World} {B : Nat} (h : Three c v0 v1 v2 W) (hb : Below B W w) (hc : c < B) : Three c v0 v1 v2 w := by
  obtain ⟨z, y0, y1, y2, f0, f1, f2⟩ := h
  exact ⟨Nat.lt_of_lt_of_le z hb.size, (hb.cell (p := ⟨c, 0, none⟩) hc).trans y0, (hb.cell (p := ⟨c, 1, none⟩) hc).trans y1, (hb.cell (p := ⟨c, 2, none⟩) hc).trans y2,
    (hb.frozen (p := ⟨c, 0, none⟩) hc).trans f0, (hb.frozen (p := ⟨c, 1, none⟩) hc).trans f1, (hb.frozen (p := ⟨c, 2, none⟩) hc).trans f2⟩
theorem Past.set3 {B : Nat} {W w : World} {c : Nat} (h : Past B W w) (hc : B ≤ c) (v0 v1 v2 : Value) : Past B W (((w.setCell ⟨c, 0, none⟩ v0).setCell ⟨c, 1, none⟩ v1).setCell ⟨c, 2, none⟩ v2) :=
  ((h.set (a := ⟨c, 0, none⟩) hc _).set (a := ⟨c, 1, none⟩) hc _).set (a := ⟨c, 2, none⟩) hc _
theorem Past.mono {B C : Nat} {W w : World} (h : Past B W w) (hc : C ≤ B) : Past C W w := ⟨Nat.le_trans hc h.1, h.2.mono hc⟩
theorem ownsRow_set3 {w : World} {c e s n : Nat} {v : Value} {xs : List Value} (h : w.ownsRow (c + 1) e s v n xs) (v0 v1 v2 : Value) : (((w.setCell ⟨c, 0, none⟩ v0).setCell ⟨c, 1, none⟩ v1).setCell ⟨c, 2, none⟩ v2).ownsRow c e s v n xs :=
  World.ownsRow.mono (ownsRow_set (ownsRow_set (ownsRow_set h (Nat.lt_succ_self c) v0) (Nat.lt_succ_self c) v1) (Nat.lt_succ_self c) v2) (Nat.le_succ _)
theorem lit_cells2 (w : World) (o : Obj) (cs : Array Value) (ty : TypeId) : ∀ (j : Nat) (u : Value), cs.toList[j]? = some u → ((w.alloc o).alloc (.cells cs ty)).cell? ((⟨w.heap.size + 1, 0, none⟩ : Addr).add j) = some u := by
  intro j u h
  have h2 := lit_cells (w.alloc o) cs ty j u h
  have e : (w.alloc o).heap.size = w.heap.size + 1 := by simp
  rwa [e] at h2
theorem Three.set3 {c : Nat} {v0 v1 v2 : Value} {w : World} (h : Three c v0 v1 v2 w) (u0 u1 u2 : Value) : Three c u0 u1 u2 (((w.setCell ⟨c, 0, none⟩ u0).setCell ⟨c, 1, none⟩ u1).setCell ⟨c, 2, none⟩ u2) := by
  obtain ⟨z, y0, y1, y2, f0, f1, f2⟩ := h
  refine ⟨by simpa [World.setCell] using z, ?_, ?_, ?_, ?_, ?_, ?_⟩ <;> simp [World.frozen?_setCell, go_sem, y0, y1, y2, f0, f1, f2]
theorem Three.alloc {c : Nat} {v0 v1 v2 : Value} {w : World} (h : Three c v0 v1 v2 w) (o : Obj) : Three c v0 v1 v2 (w.alloc o) :=
  h.below ((Below.refl w.heap.size w).alloc (Nat.le_refl _) o) h.1
theorem tokC_one (t : Tok) : ∀ u ∈ tokC t, u.oneCell' = true := by intro u hu; unfold tokC at hu; simp at hu; rcases hu with rfl | rfl | rfl | rfl <;> rfl
theorem tokC_one' (a c d : Int) (s : ByteArray) : ∀ u ∈ [Value.int .i64 a, .string s, .int .i64 c, .int .i64 d], u.oneCell' = true := by intro u hu; simp at hu; rcases hu with rfl | rfl | rfl | rfl <;> rfl
theorem cell_two (w : World) (cs : Array Value) (t : TypeId) (o : Obj) (v : Value) (h : cs[0]? = some v) : ((w.alloc (.cells cs t)).alloc o).cell? ⟨w.heap.size, 0, none⟩ = some v := by
  have h1 : w.heap.size < (w.alloc (.cells cs t)).heap.size := by simp
  rw [World.cell?_alloc_past _ _ _ h1, World.cell?_alloc_at _ _ _ _ rfl]
  exact h
theorem infoT : (Tryz.prog.info? 30).map (fun i => (i.zero, i.size, i.bytes)) = some (some (.agg #[.int .i64 0, .string ⟨#[]⟩, .int .i64 0, .int .i64 0]), 4, 40) := by kernel_rfl
/-- What holds at the label. -/
def At (W : World) (s : ByteArray) (k line front : Nat) (acc : List Tok) (pv : Value) (w : World) : Prop :=
  k ≤ s.size ∧ front ≤ k ∧ line ≤ k + 1 ∧ acc.length ≤ k ∧ Past (W.heap.size + 1) (W.alloc (.cells #[.int .i64 0, .int .i64 0, .int .i64 0] 26)) w ∧
  w.ownsRow (W.heap.size + 1) 30 4 pv acc.length (acc.flatMap tokC) ∧ (∀ ts f, Lexed (s.data.toList.drop k) line (k - front + 1) ts f → Lexed s.data.toList 1 1 (acc ++ ts) f)
set_option maxRecDepth 100000 in
set_option maxHeartbeats 4000000 in
theorem Tokens_short (s : ByteArray) (hs : s.size ≤ 65536) (W : World) (hE : Errs W) : Calls Tryz.prog 9 #[.string s] W (TokEnds W s.data.toList) := by
  obtain ⟨iT, hiT, hz0, hz1, hz2⟩ := info_parts infoT
  have HI := Lib.hid (And.intro hiT (And.intro hz0 (And.intro hz1 hz2)))
  clear hiT hz0 hz1 hz2
  have h1 : ¬ ((65536 : Int) < (s.size : Int)) := by omega
  have hlen : s.data.toList.length = s.size := (Lib.size_eq s).symm
  go_enter Tryz.func9, Tryz.ntmps9
  go_wp2_with fail
  refine wp_scope_again 0 (fun a' w' => ∃ (k line front : Nat) (acc : List Tok) (pv u8 u9 u10 u11 u12 u13 u14 u15 u16 u17 u18 u19 u20 u21 u22 u23 u24 u25 u26 u27 u28 u29 u30 u31 u32 u33 u34 u35 u36 u37 u38 u39 u40 u41 u42 u43 u44 u45 u46 u47 u48 u49 u50 u51 u52 u53 u54 u55 u56 u57 u58 u59 u60 u61 u62 : Value), a' = { tmps := #[.string s, undef, .slice none 0 0, .pointer (some ⟨W.heap.size, 0, none⟩), pv, .int .i64 (k : Nat), .int .i64 (line : Nat), .int .i64 (front : Nat), u8, u9, u10, u11, u12, u13, u14, u15, u16, u17, u18, u19, u20, u21, u22, u23, u24, u25, u26, u27, u28, u29, u30, u31, u32, u33, u34, u35, u36, u37, u38, u39, u40, u41, u42, u43, u44, u45, u46, u47, u48, u49, u50, u51, u52, u53, u54, u55, u56, u57, u58, u59, u60, u61, u62], defers := [] } ∧ At W s k line front acc pv w') (fun a' _ => s.size - (intOf (a'.tmps.getD 5 undef)).toNat) rfl ?_ ?_
  · rintro a' w' ⟨k, line, front, acc, pv, u8, u9, u10, u11, u12, u13, u14, u15, u16, u17, u18, u19, u20, u21, u22, u23, u24, u25, u26, u27, u28, u29, u30, u31, u32, u33, u34, u35, u36, u37, u38, u39, u40, u41, u42, u43, u44, u45, u46, u47, u48, u49, u50, u51, u52, u53, u54, u55, u56, u57, u58, u59, u60, u61, u62, rfl, hk, hf, hl, ha, hp, hr, hcont⟩
    have HC := Lib.hid hcont
    have c1 := passedOver_any (s.extract k s.size) (by rw [from_size]; omega)
    rw [from_data] at c1
    have hple := passed_le (s.data.toList.drop k)
    rw [List.length_drop, ← Lib.size_eq] at hple
    obtain ⟨p, ep⟩ : ∃ p, p = passed (s.data.toList.drop k) := ⟨_, rfl⟩
    rw [← ep] at c1 hple
    have EP := Lib.hid ep
    clear ep hcont
    have hth := (Three.new W (.int .i64 0) (.int .i64 0) (.int .i64 0) 26).below hp.2 (Nat.lt_succ_self _)
    by_cases hend : k + p = s.size
    · have he : ((k : Int) + (p : Int) == (s.size : Int)) = true := by simp; omega
      obtain ⟨z, y0, y1, y2, f0, f1, f2⟩ := hth
      go_wp2_with ((with_reducible refine (c1 _).mono ?_); rintro e w1 ⟨rfl, rfl⟩)
      simp only [Exit.jump]
      refine bodyPost_ret (v := .tuple #[pv, fltV none]) (by simp [results, Tryz.results9, go_sem, fltV, y0, y1, y2]) rfl ⟨acc, none, pv, .inr ⟨by omega, acc, ?_, rfl⟩, rfl, ?_, ?_⟩
      · have h := HC.out [] none (.done (by rw [← EP.out, List.drop_drop]; exact List.drop_eq_nil_of_le (by omega)))
        rwa [List.append_nil] at h
      · exact (((Past.refl (Nat.le_refl W.heap.size)).alloc _).trans (hp.mono (Nat.le_succ _)) |>.set3 (Nat.le_refl _) _ _ _).2
      · exact ownsRow_set3 hr _ _ _
    · have he : ((k : Int) + (p : Int) == (s.size : Int)) = false := by simp; omega
      have hlt : k + p < s.size := by omega
      have c2 := first_any (s.extract (k + p) s.size) (by rw [from_size]; omega) (by rw [from_size]; omega) w' (hE.below ((Past.refl (Nat.le_refl W.heap.size)).alloc _ |>.trans (hp.mono (Nat.le_succ _))).2 (Nat.le_refl _))
      rw [from_data] at c2
      have hcons := cons_of s (k + p) hlt
      have hcol : ((k - front + 1 + p : Nat) : Int) = (k : Int) + p - front + 1 := by omega
      cases hfst : first (s.data.toList.drop (k + p)) with
      | bad c =>
        rw [hfst] at c2
        have eW : ∀ x : Nat, cutW x (.bad c) = .tuple #[.agg #[.int .i64 0, .string ⟨#[]⟩, .int .i64 0, .int .i64 0], .int .i64 x, .int .i64 c] := fun _ => rfl
        simp only [eW] at c2
        have hc12 := first_bad hfst
        have hc0 : ((c : Int) != 0) = true := by simp; omega
        clear eW
        go_wp2_with (first
          | ((with_reducible refine (c1 _).mono ?_); rintro e w1 ⟨rfl, rfl⟩)
          | ((with_reducible refine c2.mono ?_); rintro e w2 ⟨⟨x, rfl⟩, hb2⟩; obtain ⟨z, y0, y1, y2, f0, f1, f2⟩ := hth.below hb2 hth.1))
        simp only [Exit.jump]
        obtain ⟨_, r0, r1, r2, _⟩ := ((hth.below hb2 hth.1).set3 (.int .i64 c) (.int .i64 line) (.int .i64 ((k : Int) + p - front + 1))).alloc (.cells #[.int .i64 0, .string ⟨#[]⟩, .int .i64 0, .int .i64 0] 30)
        refine bodyPost_ret (v := .tuple #[.slice none 0 0, .agg #[.int .i64 c, .int .i64 line, .int .i64 ((k : Int) + p - front + 1)]]) (by simp [results, Tryz.results9, go_sem, r0, r1, r2]) rfl ⟨[], some ⟨c, line, k - front + 1 + p⟩, .slice none 0 0, .inr ⟨by omega, acc, ?_, rfl⟩, ?_, ?_, World.ownsRow_nil _ _ _ _⟩
        · have h := HC.out [] _ (.bad (by rw [← EP.out, List.drop_drop]; exact hcons) (by rw [← hcons]; exact hfst))
          rwa [List.append_nil, ← EP.out] at h
        · simp only [fltV, hcol]
        · exact ((((((Past.refl (Nat.le_refl W.heap.size)).alloc _).trans (hp.mono (Nat.le_succ _))).on hb2).set3 (Nat.le_refl _) _ _ _).alloc _).2
      | ok kd b sz =>
        rw [hfst] at c2
        have eW : ∀ x : Nat, cutW x (.ok kd b sz) = .tuple #[.agg #[.int .i64 kd, .string (str b), .int .i64 0, .int .i64 0], .int .i64 sz, .int .i64 0] := fun _ => rfl
        simp only [eW] at c2
        obtain ⟨hsz1, hsz2, hsz3⟩ := first_size hfst
        rw [List.length_drop, ← Lib.size_eq] at hsz2
        clear eW hsz3
        have H63 : Hid (acc.length + 1 ≤ maxLen) := Lib.hid (by unfold maxLen; omega)
        have HB1 : Hid ((acc.length + 1) * 40 ≤ 140737488355328) := Lib.hid (by omega)
        have hnext : ∀ l' c' ts f, l' = (if kd = 6 then line + 1 else line) → c' = (if kd = 6 then 1 else k - front + 1 + p + sz) → Lexed (s.data.toList.drop (k + p + sz)) l' c' ts f → Lexed s.data.toList 1 1 ((acc ++ [⟨kd, b, line, k - front + 1 + p⟩]) ++ ts) f := by
          intro l' c' ts f e1 e2 h
          subst e1 e2
          rw [List.append_assoc]
          have h2 := Lexed.step (line := line) (col := k - front + 1) (by rw [← EP.out, List.drop_drop]; exact hcons) (by rw [← hcons]; exact hfst) (ts := ts) (f := f) (by rw [← hcons, List.drop_drop, ← EP.out]; exact h)
          rw [← EP.out] at h2
          exact HC.out _ _ h2
        have HN := Lib.hid hnext
        have hcells : (acc ++ [(⟨kd, b, line, k - front + 1 + p⟩ : Tok)]).flatMap tokC = acc.flatMap tokC ++ [.int .i64 kd, .string (str b), .int .i64 line, .int .i64 ((k : Int) + p - front + 1)] := by
          rw [List.flatMap_append]
          simp [tokC, hcol]
        have HCE := Lib.hid hcells
        clear hnext hcells hcons hcol hfst
        by_cases h6 : kd = 6
        · subst h6
          go_wp2_with (first
            | ((with_reducible refine (c1 _).mono ?_); rintro e w1 ⟨rfl, rfl⟩)
            | ((with_reducible refine c2.mono ?_); rintro e w2 ⟨⟨x, rfl⟩, hb2⟩; have hr2 := ownsRow_below hr hb2; have P2 := hp.on hb2)
            | (at_builtin; refine wpList_append_own _ rfl (.tmp 50) (.tmp 52) 23 rfl (W.heap.size + 1) 30 iT _ 4 40 Tryz.underlying23 HI.out.1 HI.out.2.1 HI.out.2.2.1 HI.out.2.2.2 rfl (by decide) _ _ _ rfl ((hr2.alloc _).alloc _) ⟨w2.heap.size + 1, 0, none⟩ 1 1 [.int .i64 6, .string (str b), .int .i64 line, .int .i64 ((k : Int) + p - front + 1)] rfl rfl (lit_cells2 _ _ _ _) (tokC_one' _ _ _ _) H63.out HB1.out (by have := P2.size; simp; omega) ?_; intro pv2 w3 hown3 hgrow3 _; have kf : w3.cell? ⟨w2.heap.size, 0, none⟩ = some (.int .i64 6) := hgrow3.cell (a := ⟨w2.heap.size, 0, none⟩) (cell_two _ _ _ _ _ rfl) (fun e => Nat.lt_irrefl _ (hr2.lt _ e.symm).2)))
          have P3 := ((P2.alloc (.cells #[.int .i64 6, .string (str b), .int .i64 line, .int .i64 ((k : Int) + p - front + 1)] 30)).alloc (.cells #[.int .i64 6, .string (str b), .int .i64 line, .int .i64 ((k : Int) + p - front + 1)] 30)).grownRow hgrow3 (fun j hj => (hr2.lt j hj).1)
          have e1 : (k : Int) + p + sz = ((k + p + sz : Nat) : Int) := by omega
          have e2 : (line : Int) + 1 = ((line + 1 : Nat) : Int) := by omega
          rw [e1, e2]
          refine wp_goto ⟨rfl, ⟨k + p + sz, line + 1, k + p + sz, acc ++ [⟨6, b, line, k - front + 1 + p⟩], pv2, _, _, _, _, _, _, _, _, _, _, _, _, _, _, _, _, _, _, _, _, _, _, _, _, _, _, _, _, _, _, _, _, _, _, _, _, _, _, _, _, _, _, _, _, _, _, _, _, _, _, _, _, _, _, _, rfl, by omega, by omega, by omega, by rw [List.length_append]; simp; omega, P3, ?_, fun ts f h => HN.out (line + 1) 1 ts f rfl rfl (by rw [Nat.sub_self] at h; exact h)⟩, ?_⟩
          · rw [HCE.out, List.length_append]
            exact hown3
          · simp [intOf]
            omega
        · have hk6 : ((kd : Int) == 6) = false := by simp; omega
          have HK6 := Lib.hid h6
          clear h6
          go_wp2_with (first
            | ((with_reducible refine (c1 _).mono ?_); rintro e w1 ⟨rfl, rfl⟩)
            | ((with_reducible refine c2.mono ?_); rintro e w2 ⟨⟨x, rfl⟩, hb2⟩; have hr2 := ownsRow_below hr hb2; have P2 := hp.on hb2)
            | (at_builtin; refine wpList_append_own _ rfl (.tmp 50) (.tmp 52) 23 rfl (W.heap.size + 1) 30 iT _ 4 40 Tryz.underlying23 HI.out.1 HI.out.2.1 HI.out.2.2.1 HI.out.2.2.2 rfl (by decide) _ _ _ rfl ((hr2.alloc _).alloc _) ⟨w2.heap.size + 1, 0, none⟩ 1 1 [.int .i64 kd, .string (str b), .int .i64 line, .int .i64 ((k : Int) + p - front + 1)] rfl rfl (lit_cells2 _ _ _ _) (tokC_one' _ _ _ _) H63.out HB1.out (by have := P2.size; simp; omega) ?_; intro pv2 w3 hown3 hgrow3 _; have kf : w3.cell? ⟨w2.heap.size, 0, none⟩ = some (.int .i64 kd) := hgrow3.cell (a := ⟨w2.heap.size, 0, none⟩) (cell_two _ _ _ _ _ rfl) (fun e => Nat.lt_irrefl _ (hr2.lt _ e.symm).2)))
          have P3 := ((P2.alloc (.cells #[.int .i64 kd, .string (str b), .int .i64 line, .int .i64 ((k : Int) + p - front + 1)] 30)).alloc (.cells #[.int .i64 kd, .string (str b), .int .i64 line, .int .i64 ((k : Int) + p - front + 1)] 30)).grownRow hgrow3 (fun j hj => (hr2.lt j hj).1)
          have e1 : (k : Int) + p + sz = ((k + p + sz : Nat) : Int) := by omega
          rw [e1]
          refine wp_goto ⟨rfl, ⟨k + p + sz, line, front, acc ++ [⟨kd, b, line, k - front + 1 + p⟩], pv2, _, _, _, _, _, _, _, _, _, _, _, _, _, _, _, _, _, _, _, _, _, _, _, _, _, _, _, _, _, _, _, _, _, _, _, _, _, _, _, _, _, _, _, _, _, _, _, _, _, _, _, _, _, _, _, rfl, by omega, by omega, by omega, by rw [List.length_append]; simp; omega, P3, ?_, fun ts f h => HN.out _ _ ts f (by rw [if_neg HK6.out]) (by rw [if_neg HK6.out]; omega) h⟩, ?_⟩
          · rw [HCE.out, List.length_append]
            exact hown3
          · simp [intOf]
            omega
  · intro hpass
    go_wp2_with fail
    go_step3
    rename_i K hK
    refine hK _ _ (hpass _ _ ?_)
    exact ⟨0, 1, 0, [], .slice none 0 0, _, _, _, _, _, _, _, _, _, _, _, _, _, _, _, _, _, _, _, _, _, _, _, _, _, _, _, _, _, _, _, _, _, _, _, _, _, _, _, _, _, _, _, _, _, _, _, _, _, _, _, _, _, _, _, rfl, Nat.zero_le _, Nat.le_refl _, Nat.le_refl _, Nat.le_refl _, Past.refl (by simp), World.ownsRow_nil _ _ _ _, fun ts f h => h⟩
theorem Tokens_any (s : ByteArray) (hs : s.size < 9223372036854775807) (W : World) (hE : Errs W) : Calls Tryz.prog 9 #[.string s] W (TokEnds W s.data.toList) := by
  by_cases h : s.size ≤ 65536
  · exact Tokens_short s h W hE
  · have h1 : (65536 : Int) < (s.size : Int) := by omega
    go_enter Tryz.func9, Tryz.ntmps9
    go_wp2_with fail
    go_step3
    go_wp2_with fail
    rw [Exit.noGoto_ret]
    refine bodyPost_ret (v := .tuple #[.slice none 0 0, .agg #[.int .i64 6, .int .i64 0, .int .i64 0]]) (by simp [results, Tryz.results9, go_sem]) rfl ⟨[], some ⟨6, 0, 0⟩, .slice none 0 0, .inl ⟨by rw [← Lib.size_eq]; omega, rfl, rfl⟩, rfl, ((Past.refl (Nat.le_refl _)).alloc _).2, World.ownsRow_nil _ _ _ _⟩
end Go.Proofs.YtjomihlnjobndaaGreatDoor
