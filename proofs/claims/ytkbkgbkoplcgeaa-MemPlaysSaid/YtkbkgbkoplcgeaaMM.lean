/- Package mem: Bytes, holder. -/
import Derived.Test.YtkbkgbkoplcgeaaML
namespace Go.Proofs.Ytkbkgbkoplcgeaa
open Go.RowKit Go.Maps
set_option linter.unusedVariables false
set_option linter.unusedSimpArgs false

def bytesS (st : Ms) (k : Int) : List By := match atS st k with | none => [] | some b => seenL st b 0 b.size
theorem Bytes_any (o : Nat → Nat) (mb ab : Nat) (st : Ms) (W : World) (k : Int) (hk : wf64 k) (h : MemIs o mb ab st W) :
    Calls Try.prog 26 #[.pointer (some ⟨mb, 0, none⟩), .int .i64 k] W fun e w' => ∃ p c, e = .returned (.slice p (bytesS st k).length c) ∧ w'.ownsRow W.heap.size 32 5 (.slice p (bytesS st k).length c) (bytesS st k).length ((bytesS st k).flatMap byC) ∧ Below W.heap.size W w' := by
  have r0 := h.box.get 0 _ rfl
  have r1 := h.box.get 1 _ rfl
  have hl := h.maps.look hk
  unfold bytesS
  cases e : atS st k with
  | none =>
    rw [e] at hl
    have hl2 : (Instr.lookup 80 (.map (some ab)) (.int .i64 k) false).run Try.prog W = .ok (.pointer none) W := hl
    clear hl h e
    go_enter Try.func26, Try.ntmps26
    go_wp2_with fail
    go_ret
    exact ⟨none, 0, rfl, World.ownsRow_nil _ _ _ _, Below.refl _ _⟩
  | some b =>
    rw [e] at hl
    have hl2 : (Instr.lookup 80 (.map (some ab)) (.int .i64 k) false).run Try.prog W = .ok (.pointer (some ⟨b.pb, 0, none⟩)) W := hl
    obtain ⟨_, _, hi⟩ := atS_some e
    have s0 := (h.blk _ _ hi).2.1.get 0 _ rfl
    have c1 : Calls Try.prog 58 #[.pointer (some ⟨mb, 0, none⟩), .pointer (some ⟨b.pb, 0, none⟩), .int .i64 0, .int .i64 b.size] W fun e w' => ∃ p c, e = .returned (.slice p b.size c) ∧ w'.ownsRow W.heap.size 32 5 (.slice p b.size c) b.size ((seenL st b 0 b.size).flatMap byC) ∧ Below W.heap.size W w' :=
      seen_any o mb ab st W _ b 0 b.size (by omega) (h.fit _ _ hi).1 hi h
    clear hl h e hi
    simp only [seenL_len]
    go_enter Try.func26, Try.ntmps26
    go_wp2_with (first
      | ((with_reducible refine c1.mono ?_); rintro e w5 ⟨p, c, rfl, hr, hb⟩))
    go_ret
    exact ⟨p, c, rfl, hr, hb⟩
/-- The block in which a value of the type lies at the address. -/
def holdS (st : Ms) (t : Int) (v : Vl) : Option Bk := if v.k = 2 ∧ wd t ≠ 0 then (match atS st v.bk with | none => none | some b => if 0 ≤ v.o ∧ v.o ≤ (b.size : Int) - wd t then some b else none) else none
set_option maxHeartbeats 1000000 in
theorem holder_any (o : Nat → Nat) (mb ab : Nat) (st : Ms) (W : World) (t : Int) (v : Vl) (hk : wf64 v.bk) (ho : wf64 v.o) (h : MemIs o mb ab st W) :
    Calls Try.prog 59 #[.pointer (some ⟨mb, 0, none⟩), .int .i64 t, v.val] W fun e w' => e = .returned (ptrV (holdS st t v)) ∧ Below W.heap.size W w' := by
  have c1 := fun w => width_any t w
  have hwd := wd_le t
  have HH : holdS st t v = if v.k = 2 ∧ wd t ≠ 0 then (match atS st v.bk with | none => none | some b => if 0 ≤ v.o ∧ v.o ≤ (b.size : Int) - wd t then some b else none) else none := rfl
  obtain ⟨k, b, bk, oo⟩ := v
  obtain ⟨n, hn⟩ : ∃ n, wd t = n := ⟨_, rfl⟩
  simp only [hn] at c1 hwd HH
  have HB := Lib.hid (below1 W (.cells #[.int .i64 k, .int .u64 b, .int .i64 bk, .int .i64 oo] 24))
  have hM := h.later HB.out
  have r0 := hM.box.get 0 _ rfl
  have r1 := hM.box.get 1 _ rfl
  have hl := (h.later HB.out.drew).maps.look hk
  simp only at hl
  have HM := Lib.hid hM
  clear hn h hM
  show Calls _ _ #[.pointer (some ⟨mb, 0, none⟩), .int .i64 t, .agg #[.int .i64 k, .int .u64 b, .int .i64 bk, .int .i64 oo]] W _
  by_cases h1 : k = 2
  · by_cases h0 : n = 0
    · have HZ : Hid (holdS st t ⟨k, b, bk, oo⟩ = none) := Lib.hid (HH.trans (if_neg (fun x => x.2 h0)))
      have e1 : (k != 2) = false := by rw [h1]; rfl
      subst h0
      clear hl HH h1
      go_enter Try.func59, Try.ntmps59
      go_wp2_with ((with_reducible refine (c1 _).mono ?_); rintro e w' ⟨rfl, rfl⟩)
      go_ret
      exact ⟨by rw [HZ.out]; rfl, HB.out⟩
    · have HH2 := HH.trans (if_pos ⟨h1, h0⟩)
      have e1 : (k != 2) = false := by rw [h1]; rfl
      have e2 : ((n : Int) == 0) = false := beq_eq_false_iff_ne.2 (by omega)
      try simp only at HH2
      cases ea : atS st bk with
      | none =>
        rw [ea] at hl HH2
        have HZ := Lib.hid HH2
        have hl2 : (Instr.lookup 80 (.map (some ab)) (.int .i64 bk) false).run Try.prog (W.alloc (.cells #[.int .i64 k, .int .u64 b, .int .i64 bk, .int .i64 oo] 24)).drew = .ok (.pointer none) (W.alloc (.cells #[.int .i64 k, .int .u64 b, .int .i64 bk, .int .i64 oo] 24)).drew := hl
        clear hl HH HH2 h1 h0
        go_enter Try.func59, Try.ntmps59
        go_wp2_with ((with_reducible refine (c1 _).mono ?_); rintro e w' ⟨rfl, rfl⟩)
        go_region
        go_wp2_with fail
        go_region
        go_wp2_with fail
        go_ret
        exact ⟨by rw [HZ.out]; rfl, HB.out.drew.drew⟩
      | some c =>
        rw [ea] at hl HH2
        try simp only at HH2
        have hl2 : (Instr.lookup 80 (.map (some ab)) (.int .i64 bk) false).run Try.prog (W.alloc (.cells #[.int .i64 k, .int .u64 b, .int .i64 bk, .int .i64 oo] 24)).drew = .ok (.pointer (some ⟨c.pb, 0, none⟩)) (W.alloc (.cells #[.int .i64 k, .int .u64 b, .int .i64 bk, .int .i64 oo] 24)).drew := hl
        obtain ⟨_, _, hi⟩ := atS_some ea
        have s0 := (HM.out.blk _ _ hi).2.1.get 0 _ rfl
        have hsz := (HM.out.fit _ _ hi).1
        have ho1 := ho.1
        have ho2 := ho.2
        simp only at ho1 ho2
        clear hl HH h1 h0 hi ea ho hk
        by_cases l1 : oo < 0
        · have d1 : decide (oo < 0) = true := decide_eq_true l1
          have HZ := Lib.hid (HH2.trans (if_neg (fun x => by omega)))
          clear HH2
          go_enter Try.func59, Try.ntmps59
          go_wp2_with ((with_reducible refine (c1 _).mono ?_); rintro e w' ⟨rfl, rfl⟩)
          go_region
          go_wp2_with fail
          go_region
          go_wp2_with fail
          go_ret
          exact ⟨by rw [HZ.out]; rfl, HB.out.drew.drew⟩
        · have d1 : decide (oo < 0) = false := decide_eq_false l1
          by_cases l2 : (c.size : Int) - n < oo
          · have d2 : decide ((c.size : Int) - n < oo) = true := decide_eq_true l2
            have HZ := Lib.hid (HH2.trans (if_neg (fun x => by omega)))
            clear HH2
            go_enter Try.func59, Try.ntmps59
            go_wp2_with ((with_reducible refine (c1 _).mono ?_); rintro e w' ⟨rfl, rfl⟩)
            go_region
            go_wp2_with fail
            go_region
            go_wp2_with fail
            go_ret
            exact ⟨by rw [HZ.out]; rfl, HB.out.drew.drew⟩
          · have d2 : decide ((c.size : Int) - n < oo) = false := decide_eq_false l2
            have HZ := Lib.hid (HH2.trans (if_pos (by omega)))
            clear HH2
            go_enter Try.func59, Try.ntmps59
            go_wp2_with ((with_reducible refine (c1 _).mono ?_); rintro e w' ⟨rfl, rfl⟩)
            go_region
            go_wp2_with fail
            go_region
            go_wp2_with fail
            go_ret
            exact ⟨by rw [HZ.out]; rfl, HB.out.drew.drew⟩
  · have HZ : Hid (holdS st t ⟨k, b, bk, oo⟩ = none) := Lib.hid (HH.trans (if_neg (fun x => h1 x.1)))
    have e1 : (k != 2) = true := by simpa using h1
    clear hl HH h1
    go_enter Try.func59, Try.ntmps59
    go_wp2_with ((with_reducible refine (c1 _).mono ?_); rintro e w' ⟨rfl, rfl⟩)
    go_ret
    exact ⟨by rw [HZ.out]; rfl, HB.out⟩
end Go.Proofs.Ytkbkgbkoplcgeaa
