/- Package spell: what may be said of types, registers, targets, counts, flags, numbers. -/
import Derived.Test.YtmampoakdjjbiaaGreatDoorSpPure
import Derived.BigQuiet
import Derived.IntWalk
namespace Go.Proofs.YtmampoakdjjbiaaGreatDoor
open Go.RowKit Go.Maps
set_option linter.unusedVariables false
set_option linter.unusedSimpArgs false

/-- It answers this, and what lay there lies there still. -/
def Ans (v : Value) (W : World) (e : Ending) (w' : World) : Prop := e = .returned v ∧ Below W.heap.size W w'
theorem below_drewN' {B : Nat} {W w : World} (h : Below B W w) (n : Nat) : Below B W (w.drewN n) := ⟨h.os, h.tape, h.output, h.size, h.block⟩
def tgB (t : Int) : Bool := decide (0 ≤ t ∧ t ≤ 999)
theorem idle_any (op : Int) (W : World) : Calls Tryz.prog 93 #[.int .i64 op] W fun e w' => e = .returned (.bool (idleB op)) ∧ w' = W := by
  unfold idleB
  go_enter Tryz.func93, Tryz.ntmps93
  go_wp2
  all_goals go_ret
  all_goals exact ⟨ret_bool (by rw [Bool.eq_iff_iff]; simp; omega), rfl⟩
theorem isType_any (t : Int) (W : World) : Calls Tryz.prog 41 #[.int .i64 t] W fun e w' => e = .returned (.bool (tyB t)) ∧ w' = W := by
  unfold tyB
  go_enter Tryz.func41, Tryz.ntmps41
  go_wp2
  all_goals go_ret
  all_goals exact ⟨ret_bool (by rw [Bool.eq_iff_iff]; simp; omega), rfl⟩
theorem isRegister_any (t : Int) (W : World) : Calls Tryz.prog 94 #[.int .i64 t] W fun e w' => e = .returned (.bool (regB t)) ∧ w' = W := by
  unfold regB
  go_enter Tryz.func94, Tryz.ntmps94
  go_wp2
  all_goals go_ret
  all_goals exact ⟨ret_bool (by rw [Bool.eq_iff_iff]; simp; omega), rfl⟩
theorem isTarget_any (t : Int) (W : World) : Calls Tryz.prog 62 #[.int .i64 t] W fun e w' => e = .returned (.bool (tgB t)) ∧ w' = W := by
  unfold tgB
  go_enter Tryz.func62, Tryz.ntmps62
  go_wp2
  all_goals go_ret
  all_goals exact ⟨ret_bool (by rw [Bool.eq_iff_iff]; simp; omega), rfl⟩
/-- Which operation: one of those that have a row of their own, or another one. -/
theorem op_cases (op : Int) : op = 20 ∨ op = 21 ∨ op = 22 ∨ op = 23 ∨ op = 24 ∨ op = 25 ∨ op = 26 ∨ op = 27 ∨ op = 29 ∨ op = 30 ∨ op = 31 ∨ op = 32 ∨ op = 33 ∨ op = 34 ∨ (op ≠ 20 ∧ op ≠ 21 ∧ op ≠ 22 ∧ op ≠ 23 ∧ op ≠ 24 ∧ op ≠ 25 ∧ op ≠ 26 ∧ op ≠ 27 ∧ op ≠ 29 ∧ op ≠ 30 ∧ op ≠ 31 ∧ op ≠ 32 ∧ op ≠ 33 ∧ op ≠ 34) := by omega
/-- How many operands and how many blocks. -/
def cntI (op : Int) (al tl : Nat) : Bool :=
  if op = 25 then decide (tl = al)
  else if op = 30 then decide (tl = 0)
  else if op = 33 then decide (tl = 0 ∧ al ≤ 1)
  else if op = 31 then decide (tl = 1 ∧ al = 0)
  else if op = 32 then decide (tl = 2 ∧ al = 1)
  else if op = 26 ∨ op = 34 then decide (tl = 0 ∧ al = 0)
  else if 20 ≤ op ∧ op ≤ 22 ∨ op = 24 ∨ op = 27 then decide (tl = 0 ∧ al = 1)
  else if op = 23 then decide (tl = 0 ∧ al = 3)
  else decide (tl = 0 ∧ al = 2)
theorem cntI_none {op : Int} {al tl : Nat} (h : op ≠ 20 ∧ op ≠ 21 ∧ op ≠ 22 ∧ op ≠ 23 ∧ op ≠ 24 ∧ op ≠ 25 ∧ op ≠ 26 ∧ op ≠ 27 ∧ op ≠ 29 ∧ op ≠ 30 ∧ op ≠ 31 ∧ op ≠ 32 ∧ op ≠ 33 ∧ op ≠ 34) : cntI op al tl = decide (tl = 0 ∧ al = 2) := by
  unfold cntI
  rw [if_neg (by omega), if_neg (by omega), if_neg (by omega), if_neg (by omega), if_neg (by omega), if_neg (by omega), if_neg (by omega), if_neg (by omega)]
def numI (op n : Int) : Bool := if 20 ≤ op ∧ op ≤ 22 then tyB n else if op = 26 then decide (0 ≤ n) else if op = 30 then true else decide (n = 0)
theorem numI_none {op n : Int} (h : op ≠ 20 ∧ op ≠ 21 ∧ op ≠ 22 ∧ op ≠ 23 ∧ op ≠ 24 ∧ op ≠ 25 ∧ op ≠ 26 ∧ op ≠ 27 ∧ op ≠ 29 ∧ op ≠ 30 ∧ op ≠ 31 ∧ op ≠ 32 ∧ op ≠ 33 ∧ op ≠ 34) : numI op n = decide (n = 0) := by
  unfold numI
  rw [if_neg (by omega), if_neg (by omega), if_neg (by omega)]
def flI (op fl : Int) : Bool := if 13 < op then decide (fl = 0) else decide (0 ≤ fl ∧ fl ≤ 7)
def hasRegI (op reg : Int) : Bool := if reg = -1 then !idleB op else regB reg && (decide (op = 30) || idleB op)
set_option maxRecDepth 100000 in
set_option maxHeartbeats 8000000 in
theorem hasLists_any (op rg ty nn fl : Int) (ap tp : Option Addr) (al ac tl tc : Nat) (W : World) :
    Calls Tryz.prog 57 #[.agg #[.int .i64 op, .int .i64 rg, .int .i64 ty, .int .i64 nn, .int .i64 fl, .slice ap al ac, .slice tp tl tc]] W (Ans (.bool (cntI op al tl)) W) := by
  rcases op_cases op with rfl | rfl | rfl | rfl | rfl | rfl | rfl | rfl | rfl | rfl | rfl | rfl | rfl | rfl | hno
  · go_enter Tryz.func57, Tryz.ntmps57
    go_wp2_with fail
    go_quiet (fail)
    all_goals go_wp2
    all_goals go_ret
    all_goals exact ⟨ret_bool (by rw [Bool.eq_iff_iff]; unfold cntI; simp <;> omega), below_drewN' ((Below.refl _ _).alloc (Nat.le_refl _) _) _⟩
  · go_enter Tryz.func57, Tryz.ntmps57
    go_wp2_with fail
    go_quiet (fail)
    all_goals go_wp2
    all_goals go_ret
    all_goals exact ⟨ret_bool (by rw [Bool.eq_iff_iff]; unfold cntI; simp <;> omega), below_drewN' ((Below.refl _ _).alloc (Nat.le_refl _) _) _⟩
  · go_enter Tryz.func57, Tryz.ntmps57
    go_wp2_with fail
    go_quiet (fail)
    all_goals go_wp2
    all_goals go_ret
    all_goals exact ⟨ret_bool (by rw [Bool.eq_iff_iff]; unfold cntI; simp <;> omega), below_drewN' ((Below.refl _ _).alloc (Nat.le_refl _) _) _⟩
  · go_enter Tryz.func57, Tryz.ntmps57
    go_wp2_with fail
    go_quiet (fail)
    all_goals go_wp2
    all_goals go_ret
    all_goals exact ⟨ret_bool (by rw [Bool.eq_iff_iff]; unfold cntI; simp <;> omega), below_drewN' ((Below.refl _ _).alloc (Nat.le_refl _) _) _⟩
  · go_enter Tryz.func57, Tryz.ntmps57
    go_wp2_with fail
    go_quiet (fail)
    all_goals go_wp2
    all_goals go_ret
    all_goals exact ⟨ret_bool (by rw [Bool.eq_iff_iff]; unfold cntI; simp <;> omega), below_drewN' ((Below.refl _ _).alloc (Nat.le_refl _) _) _⟩
  · go_enter Tryz.func57, Tryz.ntmps57
    go_wp2_with fail
    go_quiet (fail)
    all_goals go_wp2
    all_goals go_ret
    all_goals exact ⟨ret_bool (by rw [Bool.eq_iff_iff]; unfold cntI; simp <;> omega), below_drewN' ((Below.refl _ _).alloc (Nat.le_refl _) _) _⟩
  · go_enter Tryz.func57, Tryz.ntmps57
    go_wp2_with fail
    go_quiet (fail)
    all_goals go_wp2
    all_goals go_ret
    all_goals exact ⟨ret_bool (by rw [Bool.eq_iff_iff]; unfold cntI; simp <;> omega), below_drewN' ((Below.refl _ _).alloc (Nat.le_refl _) _) _⟩
  · go_enter Tryz.func57, Tryz.ntmps57
    go_wp2_with fail
    go_quiet (fail)
    all_goals go_wp2
    all_goals go_ret
    all_goals exact ⟨ret_bool (by rw [Bool.eq_iff_iff]; unfold cntI; simp <;> omega), below_drewN' ((Below.refl _ _).alloc (Nat.le_refl _) _) _⟩
  · go_enter Tryz.func57, Tryz.ntmps57
    go_wp2_with fail
    go_quiet (fail)
    all_goals go_wp2
    all_goals go_ret
    all_goals exact ⟨ret_bool (by rw [Bool.eq_iff_iff]; unfold cntI; simp <;> omega), below_drewN' ((Below.refl _ _).alloc (Nat.le_refl _) _) _⟩
  · go_enter Tryz.func57, Tryz.ntmps57
    go_wp2_with fail
    go_quiet (fail)
    all_goals go_wp2
    all_goals go_ret
    all_goals exact ⟨ret_bool (by rw [Bool.eq_iff_iff]; unfold cntI; simp <;> omega), below_drewN' ((Below.refl _ _).alloc (Nat.le_refl _) _) _⟩
  · go_enter Tryz.func57, Tryz.ntmps57
    go_wp2_with fail
    go_quiet (fail)
    all_goals go_wp2
    all_goals go_ret
    all_goals exact ⟨ret_bool (by rw [Bool.eq_iff_iff]; unfold cntI; simp <;> omega), below_drewN' ((Below.refl _ _).alloc (Nat.le_refl _) _) _⟩
  · go_enter Tryz.func57, Tryz.ntmps57
    go_wp2_with fail
    go_quiet (fail)
    all_goals go_wp2
    all_goals go_ret
    all_goals exact ⟨ret_bool (by rw [Bool.eq_iff_iff]; unfold cntI; simp <;> omega), below_drewN' ((Below.refl _ _).alloc (Nat.le_refl _) _) _⟩
  · go_enter Tryz.func57, Tryz.ntmps57
    go_wp2_with fail
    go_quiet (fail)
    all_goals go_wp2
    all_goals go_ret
    all_goals exact ⟨ret_bool (by rw [Bool.eq_iff_iff]; unfold cntI; simp <;> omega), below_drewN' ((Below.refl _ _).alloc (Nat.le_refl _) _) _⟩
  · go_enter Tryz.func57, Tryz.ntmps57
    go_wp2_with fail
    go_quiet (fail)
    all_goals go_wp2
    all_goals go_ret
    all_goals exact ⟨ret_bool (by rw [Bool.eq_iff_iff]; unfold cntI; simp <;> omega), below_drewN' ((Below.refl _ _).alloc (Nat.le_refl _) _) _⟩
  · have hno2 := hno
    obtain ⟨n20, n21, n22, n23, n24, n25, n26, n27, n29, n30, n31, n32, n33, n34⟩ := hno2
    have e20 : (op == (20 : Int)) = false := by simp; omega
    have e21 : (op == (21 : Int)) = false := by simp; omega
    have e22 : (op == (22 : Int)) = false := by simp; omega
    have e23 : (op == (23 : Int)) = false := by simp; omega
    have e24 : (op == (24 : Int)) = false := by simp; omega
    have e25 : (op == (25 : Int)) = false := by simp; omega
    have e26 : (op == (26 : Int)) = false := by simp; omega
    have e27 : (op == (27 : Int)) = false := by simp; omega
    have e29 : (op == (29 : Int)) = false := by simp; omega
    have e30 : (op == (30 : Int)) = false := by simp; omega
    have e31 : (op == (31 : Int)) = false := by simp; omega
    have e32 : (op == (32 : Int)) = false := by simp; omega
    have e33 : (op == (33 : Int)) = false := by simp; omega
    have e34 : (op == (34 : Int)) = false := by simp; omega
    clear n20 n21 n22 n23 n24 n25 n26 n27 n29 n30 n31 n32 n33 n34
    have HNO := Lib.hid hno
    clear hno
    go_enter Tryz.func57, Tryz.ntmps57
    go_wp2_with fail
    go_quiet (fail)
    all_goals go_wp2
    all_goals go_ret
    all_goals exact ⟨ret_bool (by rw [Bool.eq_iff_iff]; rw [cntI_none HNO.out]; simp <;> omega), below_drewN' ((Below.refl _ _).alloc (Nat.le_refl _) _) _⟩
set_option maxRecDepth 100000 in
set_option maxHeartbeats 8000000 in
theorem hasFlags_any (op rg ty nn fl : Int) (ap tp : Option Addr) (al ac tl tc : Nat) (W : World) :
    Calls Tryz.prog 60 #[.agg #[.int .i64 op, .int .i64 rg, .int .i64 ty, .int .i64 nn, .int .i64 fl, .slice ap al ac, .slice tp tl tc]] W (Ans (.bool (flI op fl)) W) := by
  unfold flI
  by_cases h0 : 13 < op
  · have d0 : decide ((13 : Int) < op) = true := by simp [h0]
    rw [if_pos h0]
    go_enter Tryz.func60, Tryz.ntmps60
    go_wp2
    all_goals go_ret
    all_goals exact ⟨ret_bool (by first | rfl | (rw [Bool.eq_iff_iff]; simp)), (Below.refl _ _).alloc (Nat.le_refl _) _⟩
  · have d0 : decide ((13 : Int) < op) = false := by simp; omega
    rw [if_neg h0]
    go_enter Tryz.func60, Tryz.ntmps60
    go_wp2
    all_goals go_ret
    all_goals exact ⟨ret_bool (by first | rfl | (rw [Bool.eq_iff_iff]; simp <;> omega)), (Below.refl _ _).alloc (Nat.le_refl _) _⟩
set_option maxRecDepth 100000 in
set_option maxHeartbeats 8000000 in
theorem hasNumber_any (op rg ty nn fl : Int) (ap tp : Option Addr) (al ac tl tc : Nat) (W : World) :
    Calls Tryz.prog 59 #[.agg #[.int .i64 op, .int .i64 rg, .int .i64 ty, .int .i64 nn, .int .i64 fl, .slice ap al ac, .slice tp tl tc]] W (Ans (.bool (numI op nn)) W) := by
  rcases op_cases op with rfl | rfl | rfl | rfl | rfl | rfl | rfl | rfl | rfl | rfl | rfl | rfl | rfl | rfl | hno
  · go_enter Tryz.func59, Tryz.ntmps59
    go_wp2_with fail
    refine (isType_any nn _).mono ?_
    rintro e w2 ⟨rfl, rfl⟩
    go_wp2_with fail
    go_ret
    exact ⟨rfl, (Below.refl _ _).alloc (Nat.le_refl _) _⟩
  · go_enter Tryz.func59, Tryz.ntmps59
    go_wp2_with fail
    refine (isType_any nn _).mono ?_
    rintro e w2 ⟨rfl, rfl⟩
    go_wp2_with fail
    go_ret
    exact ⟨rfl, (Below.refl _ _).alloc (Nat.le_refl _) _⟩
  · go_enter Tryz.func59, Tryz.ntmps59
    go_wp2_with fail
    refine (isType_any nn _).mono ?_
    rintro e w2 ⟨rfl, rfl⟩
    go_wp2_with fail
    go_ret
    exact ⟨rfl, (Below.refl _ _).alloc (Nat.le_refl _) _⟩
  · go_enter Tryz.func59, Tryz.ntmps59
    go_wp2
    all_goals go_ret
    all_goals exact ⟨ret_bool (by rw [Bool.eq_iff_iff]; unfold numI; simp <;> omega), (Below.refl _ _).alloc (Nat.le_refl _) _⟩
  · go_enter Tryz.func59, Tryz.ntmps59
    go_wp2
    all_goals go_ret
    all_goals exact ⟨ret_bool (by rw [Bool.eq_iff_iff]; unfold numI; simp <;> omega), (Below.refl _ _).alloc (Nat.le_refl _) _⟩
  · go_enter Tryz.func59, Tryz.ntmps59
    go_wp2
    all_goals go_ret
    all_goals exact ⟨ret_bool (by rw [Bool.eq_iff_iff]; unfold numI; simp <;> omega), (Below.refl _ _).alloc (Nat.le_refl _) _⟩
  · go_enter Tryz.func59, Tryz.ntmps59
    go_wp2
    all_goals go_ret
    all_goals exact ⟨ret_bool (by rw [Bool.eq_iff_iff]; unfold numI; simp <;> omega), (Below.refl _ _).alloc (Nat.le_refl _) _⟩
  · go_enter Tryz.func59, Tryz.ntmps59
    go_wp2
    all_goals go_ret
    all_goals exact ⟨ret_bool (by rw [Bool.eq_iff_iff]; unfold numI; simp <;> omega), (Below.refl _ _).alloc (Nat.le_refl _) _⟩
  · go_enter Tryz.func59, Tryz.ntmps59
    go_wp2
    all_goals go_ret
    all_goals exact ⟨ret_bool (by rw [Bool.eq_iff_iff]; unfold numI; simp <;> omega), (Below.refl _ _).alloc (Nat.le_refl _) _⟩
  · go_enter Tryz.func59, Tryz.ntmps59
    go_wp2
    all_goals go_ret
    all_goals exact ⟨ret_bool (by rw [Bool.eq_iff_iff]; unfold numI; simp <;> omega), (Below.refl _ _).alloc (Nat.le_refl _) _⟩
  · go_enter Tryz.func59, Tryz.ntmps59
    go_wp2
    all_goals go_ret
    all_goals exact ⟨ret_bool (by rw [Bool.eq_iff_iff]; unfold numI; simp <;> omega), (Below.refl _ _).alloc (Nat.le_refl _) _⟩
  · go_enter Tryz.func59, Tryz.ntmps59
    go_wp2
    all_goals go_ret
    all_goals exact ⟨ret_bool (by rw [Bool.eq_iff_iff]; unfold numI; simp <;> omega), (Below.refl _ _).alloc (Nat.le_refl _) _⟩
  · go_enter Tryz.func59, Tryz.ntmps59
    go_wp2
    all_goals go_ret
    all_goals exact ⟨ret_bool (by rw [Bool.eq_iff_iff]; unfold numI; simp <;> omega), (Below.refl _ _).alloc (Nat.le_refl _) _⟩
  · go_enter Tryz.func59, Tryz.ntmps59
    go_wp2
    all_goals go_ret
    all_goals exact ⟨ret_bool (by rw [Bool.eq_iff_iff]; unfold numI; simp <;> omega), (Below.refl _ _).alloc (Nat.le_refl _) _⟩
  · have hno2 := hno
    obtain ⟨n20, n21, n22, n23, n24, n25, n26, n27, n29, n30, n31, n32, n33, n34⟩ := hno2
    have e20 : (op == (20 : Int)) = false := by simp; omega
    have e21 : (op == (21 : Int)) = false := by simp; omega
    have e22 : (op == (22 : Int)) = false := by simp; omega
    have e23 : (op == (23 : Int)) = false := by simp; omega
    have e24 : (op == (24 : Int)) = false := by simp; omega
    have e25 : (op == (25 : Int)) = false := by simp; omega
    have e26 : (op == (26 : Int)) = false := by simp; omega
    have e27 : (op == (27 : Int)) = false := by simp; omega
    have e29 : (op == (29 : Int)) = false := by simp; omega
    have e30 : (op == (30 : Int)) = false := by simp; omega
    have e31 : (op == (31 : Int)) = false := by simp; omega
    have e32 : (op == (32 : Int)) = false := by simp; omega
    have e33 : (op == (33 : Int)) = false := by simp; omega
    have e34 : (op == (34 : Int)) = false := by simp; omega
    clear n20 n21 n22 n23 n24 n25 n26 n27 n29 n30 n31 n32 n33 n34
    have HNO := Lib.hid hno
    clear hno
    go_enter Tryz.func59, Tryz.ntmps59
    go_wp2
    all_goals go_ret
    all_goals exact ⟨ret_bool (by rw [Bool.eq_iff_iff]; rw [numI_none HNO.out]; simp), (Below.refl _ _).alloc (Nat.le_refl _) _⟩
set_option maxRecDepth 100000 in
set_option maxHeartbeats 8000000 in
theorem hasRegister_any (op rg ty nn fl : Int) (ap tp : Option Addr) (al ac tl tc : Nat) (W : World) :
    Calls Tryz.prog 61 #[.agg #[.int .i64 op, .int .i64 rg, .int .i64 ty, .int .i64 nn, .int .i64 fl, .slice ap al ac, .slice tp tl tc]] W (Ans (.bool (hasRegI op rg)) W) := by
  have ci := fun w => idle_any op w
  have cr := fun w => isRegister_any rg w
  unfold hasRegI
  obtain ⟨qi, ei⟩ : ∃ q, idleB op = q := ⟨_, rfl⟩
  obtain ⟨qr, er⟩ : ∃ q, regB rg = q := ⟨_, rfl⟩
  simp only [ei] at ci
  simp only [er] at cr
  rw [ei, er]
  clear ei er
  by_cases h0 : rg = -1
  · have d0 : (rg == (-1 : Int)) = true := by simp [h0]
    rw [if_pos h0]
    clear h0
    go_enter Tryz.func61, Tryz.ntmps61
    go_wp2_with fail
    refine (ci _).mono ?_
    rintro e w2 ⟨rfl, rfl⟩
    cases qi
    all_goals
      go_wp2_with fail
      go_ret
      exact ⟨rfl, (Below.refl _ _).alloc (Nat.le_refl _) _⟩
  · have d0 : (rg == (-1 : Int)) = false := by simp; exact h0
    rw [if_neg h0]
    clear h0
    go_enter Tryz.func61, Tryz.ntmps61
    go_wp2_with fail
    refine (cr _).mono ?_
    rintro e w2 ⟨rfl, rfl⟩
    cases qr
    case false =>
      go_wp2_with fail
      go_ret
      exact ⟨rfl, (Below.refl _ _).alloc (Nat.le_refl _) _⟩
    case true =>
      by_cases h1 : op = 30
      · have d1 : (op == (30 : Int)) = true := by simp [h1]
        have H1 := Lib.hid h1
        clear h1
        go_wp2_with fail
        go_ret
        exact ⟨ret_bool (by simp [H1.out]), (Below.refl _ _).alloc (Nat.le_refl _) _⟩
      · have d1 : (op == (30 : Int)) = false := by simp; exact h1
        have H1 := Lib.hid h1
        clear h1
        go_wp2_with fail
        refine (ci _).mono ?_
        rintro e w2 ⟨rfl, rfl⟩
        cases qi
        all_goals
          go_wp2_with fail
          go_ret
          exact ⟨ret_bool (by simp [H1.out]), (Below.refl _ _).alloc (Nat.le_refl _) _⟩
/-- The table of the operations' words. -/
def Ops (W : World) : Prop := ∀ k, k < 35 → W.cell? ⟨0, k, none⟩ = some (.string ⟨(opT k).toArray⟩)
theorem Ops.later {W w : World} (h : Ops W) (hb : Below W.heap.size W w) : Ops w := fun k hk => (hb.cell (p := ⟨0, k, none⟩) (World.block_lt_of_cell? W _ (h k hk))).trans (h k hk)
theorem opT_out {op : Int} (h : ¬ (0 ≤ op ∧ op < 35)) : opT op = [] := by
  unfold opT
  by_cases h0 : 0 ≤ op
  · rw [List.getElem?_eq_none (by simp; omega)]
    rfl
  · rw [show op.toNat = 0 by omega]
    rfl
set_option maxRecDepth 100000 in
theorem Of_any (op : Int) (W : World) (hO : Ops W) : Calls Tryz.prog 56 #[.int .i64 op] W fun e w' => e = .returned (.string ⟨(opT op).toArray⟩) ∧ w' = W := by
  by_cases h0 : 0 ≤ op
  · have d0 : decide (op < (0 : Int)) = false := by simp; omega
    by_cases h1 : op < 35
    · have d1 : decide ((35 : Int) ≤ op) = false := by simp; omega
      obtain ⟨k, rfl⟩ : ∃ k : Nat, op = k := ⟨op.toNat, by omega⟩
      have hk : k < 35 := by omega
      have k0 := hO k hk
      go_enter Tryz.func56, Tryz.ntmps56
      go_wp2_with fail
      go_ret
      exact ⟨rfl, rfl⟩
    · have d1 : decide ((35 : Int) ≤ op) = true := by simp; omega
      rw [opT_out (by omega)]
      go_enter Tryz.func56, Tryz.ntmps56
      go_wp2_with fail
      go_ret
      exact ⟨rfl, rfl⟩
  · have d0 : decide (op < (0 : Int)) = true := by simp; omega
    rw [opT_out (by omega)]
    go_enter Tryz.func56, Tryz.ntmps56
    go_wp2_with fail
    go_ret
    exact ⟨rfl, rfl⟩
end Go.Proofs.YtmampoakdjjbiaaGreatDoor
