/- The document's Sayable: its small functions. -/
import Derived.Test.YtmampoakdjjbiaaGreatDoorSpD
namespace Go.Proofs.YtmampoakdjjbiaaGreatDoor
open Go.RowKit Go.Maps
set_option linter.unusedVariables false
set_option linter.unusedSimpArgs false

theorem rIn_any (n lo hi : Int) (W : World) : Calls Tryz.prog 98 #[.int .i64 n, .int .i64 lo, .int .i64 hi] W fun e w' => e = .returned (.bool (decide (lo ≤ n ∧ n ≤ hi))) ∧ w' = W := by
  go_enter Tryz.func98, Tryz.ntmps98
  go_wp2
  all_goals go_ret
  all_goals exact ⟨ret_bool (by first | rfl | (rw [Bool.eq_iff_iff]; simp <;> omega)), rfl⟩
theorem ridle_any (op : Int) (W : World) : Calls Tryz.prog 100 #[.int .i64 op] W fun e w' => e = .returned (.bool (idleB op)) ∧ w' = W := by
  unfold idleB
  go_enter Tryz.func100, Tryz.ntmps100
  go_wp2
  all_goals go_ret
  all_goals exact ⟨ret_bool (by rw [Bool.eq_iff_iff]; simp; omega), rfl⟩
theorem rword1_any (s : ByteArray) (hs : s.size ≤ 1048576) (W : World) : Calls Tryz.prog 28 #[.string s] W fun e w' => e = .returned (.bool (wdB (byt s))) ∧ w' = W := rWord_any s (by omega) W
theorem all_take {α : Type} (P : α → Bool) (xs : List α) (i : Nat) (h : i < xs.length) (ha : (xs.take i).all P = true) : (xs.take (i + 1)).all P = P xs[i] := by
  rw [List.take_succ_eq_append_getElem h, List.all_append, ha]
  simp
theorem all_miss {α : Type} (P : α → Bool) (xs : List α) (i : Nat) (h : i < xs.length) (hp : P xs[i] = false) : xs.all P = false := by
  rw [Bool.eq_false_iff]
  intro k
  rw [List.all_eq_true.1 k _ (List.getElem_mem h)] at hp
  cases hp
set_option maxRecDepth 100000 in
set_option maxHeartbeats 2000000 in
theorem rTypes_any (pp : Option Addr) (pn pc : Nat) (ps : List Int) (W : World) (h : ListIn intC NoMem W.heap.size W pp pn pc ps) :
    Calls Tryz.prog 67 #[.slice pp pn pc] W fun e w' => e = .returned (.bool (ps.all tyB)) ∧ w' = W := by
  obtain rfl : pn = ps.length := h.1
  have hc1 := h.2.1
  have hc2 := h.2.2.1
  unfold maxLen at hc2
  have HH := Lib.hid h
  clear h
  go_enter Tryz.func67, Tryz.ntmps67
  go_wp2_with fail
  go_loopw [3] (fun t wr => ∃ i : Nat, i ≤ ps.length ∧ t = .int .i64 i ∧ Hid ((ps.take i).all tyB = true) ∧ wr = W) (fun t _ => ps.length - (intOf t).toNat)
  case atStart => exact ⟨0, Nat.zero_le _, rfl, Lib.hid (by simp), rfl⟩
  case round =>
    obtain ⟨i, hi, rfl, ha, rfl⟩ := hrel
    by_cases hlt : i < ps.length
    · obtain ⟨a, rfl, hab, k0⟩ := row_I HH.out i hlt
      have HA := Lib.hid (all_take tyB ps i hlt ha.out)
      have HT := Lib.hid (all_miss tyB ps i hlt)
      obtain ⟨x, ex⟩ : ∃ x, ps[i] = x := ⟨_, rfl⟩
      simp only [ex] at HA HT k0
      clear ex ha
      by_cases h0 : x < 0
      · have d0 : decide (x < (0 : Int)) = true := by simp [h0]
        have HF := Lib.hid (HT.out (by unfold tyB; simp; omega))
        clear h0
        go_wp2_with fail
        go_ret
        exact ⟨ret_bool HF.out.symm, by first | rfl | trivial⟩
      · have d0 : decide (x < (0 : Int)) = false := by simp; omega
        by_cases h1 : 65 < x
        · have d1 : decide ((65 : Int) < x) = true := by simp [h1]
          have HF := Lib.hid (HT.out (by unfold tyB; simp; omega))
          clear h0 h1
          go_wp2_with fail
          go_ret
          exact ⟨ret_bool HF.out.symm, by first | rfl | trivial⟩
        · have d1 : decide ((65 : Int) < x) = false := by simp; omega
          have HF := Lib.hid (HA.out.trans (show tyB x = true by unfold tyB; simp; omega))
          clear h0 h1
          go_wp2_with fail
          exact ⟨⟨i + 1, by omega, by go_num, HF, by first | rfl | trivial⟩, by simp [intOf]; omega⟩
    · obtain rfl : i = ps.length := by omega
      have HA := Lib.hid ha.out
      rw [List.take_length] at HA
      clear ha
      go_wp2_with fail
      go_ret
      exact ⟨ret_bool HA.out.symm, by first | rfl | trivial⟩
set_option maxRecDepth 100000 in
theorem rHead_any (nm : ByteArray) (pp : Option Addr) (pn pc : Nat) (ps : List Int) (rt : Int) (hs : nm.size ≤ 1048576) (W : World) (h : ListIn intC NoMem W.heap.size W pp pn pc ps) :
    Calls Tryz.prog 29 #[.string nm, .slice pp pn pc, .int .i64 rt] W fun e w' => e = .returned (.bool (headB wdB nm ps rt)) ∧ w' = W := by
  have c0 := rword1_any nm hs
  have c1 := rTypes_any pp pn pc ps W h
  unfold headB
  obtain ⟨q0, e0⟩ : ∃ q, wdB (byt nm) = q := ⟨_, rfl⟩
  obtain ⟨q1, e1⟩ : ∃ q, ps.all tyB = q := ⟨_, rfl⟩
  simp only [e0] at c0
  simp only [e1] at c1
  rw [e0, e1]
  clear e0 e1 h hs
  go_enter Tryz.func29, Tryz.ntmps29
  go_wp2_with fail
  refine (c0 _).mono ?_
  rintro e w2 ⟨rfl, rfl⟩
  cases q0
  case false =>
    go_wp2_with fail
    go_ret
    exact ⟨rfl, rfl⟩
  go_wp2_with fail
  refine c1.mono ?_
  rintro e w3 ⟨rfl, rfl⟩
  clear c1
  cases q1
  case false =>
    go_wp2_with fail
    go_ret
    exact ⟨rfl, rfl⟩
  go_wp2
  all_goals go_ret
  all_goals exact ⟨ret_bool (by rw [Bool.eq_iff_iff]; unfold tyB; simp <;> omega), rfl⟩
/-- How many operands and blocks there must be. -/
def cA (op : Int) (al : Nat) : Int × Int :=
  if op = 20 ∨ op = 21 ∨ op = 22 ∨ op = 24 ∨ op = 27 then (1, 0) else if op = 23 then (3, 0) else if op = 25 then (al, al) else if op = 26 ∨ op = 34 then (0, 0)
  else if op = 28 ∨ op = 29 then (2, 0) else if op = 30 then (al, 0) else if op = 31 then (0, 1) else if op = 32 then (1, 2) else if op = 33 then (if al = 0 then 0 else 1, 0)
  else if 1 ≤ op ∧ op ≤ 19 then (2, 0) else (-1, -1)
theorem cA_iff (op : Int) (al tl : Nat) : ((cA op al).1 = (al : Int) ∧ (cA op al).2 = (tl : Int)) ↔ ((1 ≤ op ∧ op ≤ 34) ∧ cntI op al tl = true) := by
  rcases op_cases op with rfl | rfl | rfl | rfl | rfl | rfl | rfl | rfl | rfl | rfl | rfl | rfl | rfl | rfl | hno
  · unfold cA cntI; simp <;> (try split) <;> omega
  · unfold cA cntI; simp <;> (try split) <;> omega
  · unfold cA cntI; simp <;> (try split) <;> omega
  · unfold cA cntI; simp <;> (try split) <;> omega
  · unfold cA cntI; simp <;> (try split) <;> omega
  · unfold cA cntI; simp <;> (try split) <;> omega
  · unfold cA cntI; simp <;> (try split) <;> omega
  · unfold cA cntI; simp <;> (try split) <;> omega
  · unfold cA cntI; simp <;> (try split) <;> omega
  · unfold cA cntI; simp <;> (try split) <;> omega
  · unfold cA cntI; simp <;> (try split) <;> omega
  · unfold cA cntI; simp <;> (try split) <;> omega
  · unfold cA cntI; simp <;> (try split) <;> omega
  · unfold cA cntI; simp <;> (try split) <;> omega
  · rw [cntI_none hno]
    by_cases h28 : op = 28
    · subst h28; unfold cA; simp <;> omega
    · by_cases h : 1 ≤ op ∧ op ≤ 19
      · have : cA op al = (2, 0) := by
          unfold cA
          rw [if_neg (by omega), if_neg (by omega), if_neg (by omega), if_neg (by omega), if_neg (by omega), if_neg (by omega), if_neg (by omega), if_neg (by omega), if_neg (by omega), if_pos h]
        rw [this]
        simp <;> omega
      · have : cA op al = (-1, -1) := by
          unfold cA
          rw [if_neg (by omega), if_neg (by omega), if_neg (by omega), if_neg (by omega), if_neg (by omega), if_neg (by omega), if_neg (by omega), if_neg (by omega), if_neg (by omega), if_neg h]
        rw [this]
        simp <;> omega
set_option maxRecDepth 100000 in
set_option maxHeartbeats 8000000 in
theorem rCounts_any (op rg ty nn fl : Int) (ap tp : Option Addr) (al ac tl tc : Nat) (W : World) :
    Calls Tryz.prog 68 #[.agg #[.int .i64 op, .int .i64 rg, .int .i64 ty, .int .i64 nn, .int .i64 fl, .slice ap al ac, .slice tp tl tc]] W fun e w' => e = .returned (.tuple #[.int .i64 (cA op al).1, .int .i64 (cA op al).2]) ∧ Below W.heap.size W w' := by
  rcases op_cases op with rfl | rfl | rfl | rfl | rfl | rfl | rfl | rfl | rfl | rfl | rfl | rfl | rfl | rfl | hno
  · go_enter Tryz.func68, Tryz.ntmps68
    go_wp2_with fail
    go_ret2
    exact ⟨rfl, (Below.refl _ _).alloc (Nat.le_refl _) _⟩
  · go_enter Tryz.func68, Tryz.ntmps68
    go_wp2_with fail
    go_ret2
    exact ⟨rfl, (Below.refl _ _).alloc (Nat.le_refl _) _⟩
  · go_enter Tryz.func68, Tryz.ntmps68
    go_wp2_with fail
    go_ret2
    exact ⟨rfl, (Below.refl _ _).alloc (Nat.le_refl _) _⟩
  · go_enter Tryz.func68, Tryz.ntmps68
    go_wp2_with fail
    go_ret2
    exact ⟨rfl, (Below.refl _ _).alloc (Nat.le_refl _) _⟩
  · go_enter Tryz.func68, Tryz.ntmps68
    go_wp2_with fail
    go_ret2
    exact ⟨rfl, (Below.refl _ _).alloc (Nat.le_refl _) _⟩
  · go_enter Tryz.func68, Tryz.ntmps68
    go_wp2_with fail
    go_ret2
    exact ⟨rfl, (Below.refl _ _).alloc (Nat.le_refl _) _⟩
  · go_enter Tryz.func68, Tryz.ntmps68
    go_wp2_with fail
    go_ret2
    exact ⟨rfl, (Below.refl _ _).alloc (Nat.le_refl _) _⟩
  · go_enter Tryz.func68, Tryz.ntmps68
    go_wp2_with fail
    go_ret2
    exact ⟨rfl, (Below.refl _ _).alloc (Nat.le_refl _) _⟩
  · go_enter Tryz.func68, Tryz.ntmps68
    go_wp2_with fail
    go_ret2
    exact ⟨rfl, (Below.refl _ _).alloc (Nat.le_refl _) _⟩
  · go_enter Tryz.func68, Tryz.ntmps68
    go_wp2_with fail
    go_ret2
    exact ⟨rfl, (Below.refl _ _).alloc (Nat.le_refl _) _⟩
  · go_enter Tryz.func68, Tryz.ntmps68
    go_wp2_with fail
    go_ret2
    exact ⟨rfl, (Below.refl _ _).alloc (Nat.le_refl _) _⟩
  · go_enter Tryz.func68, Tryz.ntmps68
    go_wp2_with fail
    go_ret2
    exact ⟨rfl, (Below.refl _ _).alloc (Nat.le_refl _) _⟩
  · by_cases h0 : al = 0
    · subst h0
      go_enter Tryz.func68, Tryz.ntmps68
      go_wp2_with fail
      go_ret2
      exact ⟨by first | rfl | simp [cA], (Below.refl _ _).alloc (Nat.le_refl _) _⟩
    · by_cases h1 : al = 1
      · subst h1
        clear h0
        go_enter Tryz.func68, Tryz.ntmps68
        go_wp2_with fail
        go_ret2
        exact ⟨by first | rfl | simp [cA], (Below.refl _ _).alloc (Nat.le_refl _) _⟩
      · have hc : cA 33 al = (1, 0) := by unfold cA; simp [h0]
        have hm : ¬ (al : Int) ≤ 1 := by omega
        have hm2 : decide ((al : Int) ≤ 1) = false := by simp; omega
        rw [hc]
        clear hc h0 h1
        go_enter Tryz.func68, Tryz.ntmps68
        go_wp2_with fail
        go_ret2
        exact ⟨rfl, (Below.refl _ _).alloc (Nat.le_refl _) _⟩
  · go_enter Tryz.func68, Tryz.ntmps68
    go_wp2_with fail
    go_ret2
    exact ⟨rfl, (Below.refl _ _).alloc (Nat.le_refl _) _⟩
  · by_cases n28 : op = 28
    · subst n28
      go_enter Tryz.func68, Tryz.ntmps68
      go_wp2_with fail
      go_ret2
      exact ⟨rfl, (Below.refl _ _).alloc (Nat.le_refl _) _⟩
    · obtain ⟨n20, n21, n22, n23, n24, n25, n26, n27, n29, n30, n31, n32, n33, n34⟩ := hno
      have e20 : (op == (20 : Int)) = false := by simp; omega
      have e21 : (op == (21 : Int)) = false := by simp; omega
      have e22 : (op == (22 : Int)) = false := by simp; omega
      have e23 : (op == (23 : Int)) = false := by simp; omega
      have e24 : (op == (24 : Int)) = false := by simp; omega
      have e25 : (op == (25 : Int)) = false := by simp; omega
      have e26 : (op == (26 : Int)) = false := by simp; omega
      have e27 : (op == (27 : Int)) = false := by simp; omega
      have e29 : (op == (29 : Int)) = false := by simp; omega
      have e30 : (op == (30 : Int)) = false := by simp; omega
      have e31 : (op == (31 : Int)) = false := by simp; omega
      have e32 : (op == (32 : Int)) = false := by simp; omega
      have e33 : (op == (33 : Int)) = false := by simp; omega
      have e34 : (op == (34 : Int)) = false := by simp; omega
      have e28 : (op == (28 : Int)) = false := by simp; omega
      by_cases h : 1 ≤ op ∧ op ≤ 19
      · have hc : cA op al = (2, 0) := by
          unfold cA
          rw [if_neg (by omega), if_neg (by omega), if_neg (by omega), if_neg (by omega), if_neg (by omega), if_neg (by omega), if_neg (by omega), if_neg (by omega), if_neg (by omega), if_pos h]
        rw [hc]
        have d0 : decide ((1 : Int) ≤ op) = true := by simp [h.1]
        have d1 : decide (op ≤ (19 : Int)) = true := by simp [h.2]
        clear hc h n28 n20 n21 n22 n23 n24 n25 n26 n27 n29 n30 n31 n32 n33 n34
        go_enter Tryz.func68, Tryz.ntmps68
        go_wp2_with fail
        go_ret2
        exact ⟨rfl, (Below.refl _ _).alloc (Nat.le_refl _) _⟩
      · have hc : cA op al = (-1, -1) := by
          unfold cA
          rw [if_neg (by omega), if_neg (by omega), if_neg (by omega), if_neg (by omega), if_neg (by omega), if_neg (by omega), if_neg (by omega), if_neg (by omega), if_neg (by omega), if_neg h]
        rw [hc]
        have HN := Lib.hid h
        clear hc h n28 n20 n21 n22 n23 n24 n25 n26 n27 n29 n30 n31 n32 n33 n34
        go_enter Tryz.func68, Tryz.ntmps68
        by_cases h0 : 1 ≤ op
        · have d0 : decide ((1 : Int) ≤ op) = true := by simp [h0]
          have d1 : decide (op ≤ (19 : Int)) = false := by have := HN.out; simp; omega
          clear h0
          go_wp2_with fail
          go_ret2
          exact ⟨rfl, (Below.refl _ _).alloc (Nat.le_refl _) _⟩
        · have d0 : decide ((1 : Int) ≤ op) = false := by simp; omega
          clear h0
          go_wp2_with fail
          go_ret2
          exact ⟨rfl, (Below.refl _ _).alloc (Nat.le_refl _) _⟩
set_option maxRecDepth 100000 in
set_option maxHeartbeats 8000000 in
theorem rNumbered_any (op rg ty nn fl : Int) (ap tp : Option Addr) (al ac tl tc : Nat) (W : World) :
    Calls Tryz.prog 70 #[.agg #[.int .i64 op, .int .i64 rg, .int .i64 ty, .int .i64 nn, .int .i64 fl, .slice ap al ac, .slice tp tl tc]] W (Ans (.bool (numI op nn)) W) := by
  rcases op_cases op with rfl | rfl | rfl | rfl | rfl | rfl | rfl | rfl | rfl | rfl | rfl | rfl | rfl | rfl | hno
  · go_enter Tryz.func70, Tryz.ntmps70
    go_wp2_with fail
    refine (rIn_any nn 0 65 _).mono ?_
    rintro e w2 ⟨rfl, rfl⟩
    go_wp2_with fail
    go_ret
    exact ⟨ret_bool (by unfold numI tyB; simp), (Below.refl _ _).alloc (Nat.le_refl _) _⟩
  · go_enter Tryz.func70, Tryz.ntmps70
    go_wp2_with fail
    refine (rIn_any nn 0 65 _).mono ?_
    rintro e w2 ⟨rfl, rfl⟩
    go_wp2_with fail
    go_ret
    exact ⟨ret_bool (by unfold numI tyB; simp), (Below.refl _ _).alloc (Nat.le_refl _) _⟩
  · go_enter Tryz.func70, Tryz.ntmps70
    go_wp2_with fail
    refine (rIn_any nn 0 65 _).mono ?_
    rintro e w2 ⟨rfl, rfl⟩
    go_wp2_with fail
    go_ret
    exact ⟨ret_bool (by unfold numI tyB; simp), (Below.refl _ _).alloc (Nat.le_refl _) _⟩
  · go_enter Tryz.func70, Tryz.ntmps70
    go_wp2
    all_goals go_ret
    all_goals exact ⟨ret_bool (by first | rfl | (rw [Bool.eq_iff_iff]; unfold numI; simp <;> omega)), (Below.refl _ _).alloc (Nat.le_refl _) _⟩
  · go_enter Tryz.func70, Tryz.ntmps70
    go_wp2
    all_goals go_ret
    all_goals exact ⟨ret_bool (by first | rfl | (rw [Bool.eq_iff_iff]; unfold numI; simp <;> omega)), (Below.refl _ _).alloc (Nat.le_refl _) _⟩
  · go_enter Tryz.func70, Tryz.ntmps70
    go_wp2
    all_goals go_ret
    all_goals exact ⟨ret_bool (by first | rfl | (rw [Bool.eq_iff_iff]; unfold numI; simp <;> omega)), (Below.refl _ _).alloc (Nat.le_refl _) _⟩
  · go_enter Tryz.func70, Tryz.ntmps70
    go_wp2
    all_goals go_ret
    all_goals exact ⟨ret_bool (by first | rfl | (rw [Bool.eq_iff_iff]; unfold numI; simp <;> omega)), (Below.refl _ _).alloc (Nat.le_refl _) _⟩
  · go_enter Tryz.func70, Tryz.ntmps70
    go_wp2
    all_goals go_ret
    all_goals exact ⟨ret_bool (by first | rfl | (rw [Bool.eq_iff_iff]; unfold numI; simp <;> omega)), (Below.refl _ _).alloc (Nat.le_refl _) _⟩
  · go_enter Tryz.func70, Tryz.ntmps70
    go_wp2
    all_goals go_ret
    all_goals exact ⟨ret_bool (by first | rfl | (rw [Bool.eq_iff_iff]; unfold numI; simp <;> omega)), (Below.refl _ _).alloc (Nat.le_refl _) _⟩
  · go_enter Tryz.func70, Tryz.ntmps70
    go_wp2
    all_goals go_ret
    all_goals exact ⟨ret_bool (by first | rfl | (rw [Bool.eq_iff_iff]; unfold numI; simp <;> omega)), (Below.refl _ _).alloc (Nat.le_refl _) _⟩
  · go_enter Tryz.func70, Tryz.ntmps70
    go_wp2
    all_goals go_ret
    all_goals exact ⟨ret_bool (by first | rfl | (rw [Bool.eq_iff_iff]; unfold numI; simp <;> omega)), (Below.refl _ _).alloc (Nat.le_refl _) _⟩
  · go_enter Tryz.func70, Tryz.ntmps70
    go_wp2
    all_goals go_ret
    all_goals exact ⟨ret_bool (by first | rfl | (rw [Bool.eq_iff_iff]; unfold numI; simp <;> omega)), (Below.refl _ _).alloc (Nat.le_refl _) _⟩
  · go_enter Tryz.func70, Tryz.ntmps70
    go_wp2
    all_goals go_ret
    all_goals exact ⟨ret_bool (by first | rfl | (rw [Bool.eq_iff_iff]; unfold numI; simp <;> omega)), (Below.refl _ _).alloc (Nat.le_refl _) _⟩
  · go_enter Tryz.func70, Tryz.ntmps70
    go_wp2
    all_goals go_ret
    all_goals exact ⟨ret_bool (by first | rfl | (rw [Bool.eq_iff_iff]; unfold numI; simp <;> omega)), (Below.refl _ _).alloc (Nat.le_refl _) _⟩
  · obtain ⟨n20, n21, n22, n23, n24, n25, n26, n27, n29, n30, n31, n32, n33, n34⟩ := hno
    have e20 : (op == (20 : Int)) = false := by simp; omega
    have e21 : (op == (21 : Int)) = false := by simp; omega
    have e22 : (op == (22 : Int)) = false := by simp; omega
    have e23 : (op == (23 : Int)) = false := by simp; omega
    have e24 : (op == (24 : Int)) = false := by simp; omega
    have e25 : (op == (25 : Int)) = false := by simp; omega
    have e26 : (op == (26 : Int)) = false := by simp; omega
    have e27 : (op == (27 : Int)) = false := by simp; omega
    have e29 : (op == (29 : Int)) = false := by simp; omega
    have e30 : (op == (30 : Int)) = false := by simp; omega
    have e31 : (op == (31 : Int)) = false := by simp; omega
    have e32 : (op == (32 : Int)) = false := by simp; omega
    have e33 : (op == (33 : Int)) = false := by simp; omega
    have e34 : (op == (34 : Int)) = false := by simp; omega
    have HNO : Hid (numI op nn = decide (nn = 0)) := Lib.hid (by unfold numI; rw [if_neg (by omega), if_neg (by omega), if_neg (by omega)])
    clear n20 n21 n22 n23 n24 n25 n26 n27 n29 n30 n31 n32 n33 n34
    go_enter Tryz.func70, Tryz.ntmps70
    go_wp2
    all_goals go_ret
    all_goals exact ⟨ret_bool (by first | rfl | (rw [Bool.eq_iff_iff]; rw [HNO.out]; simp)), (Below.refl _ _).alloc (Nat.le_refl _) _⟩
set_option maxRecDepth 100000 in
set_option maxHeartbeats 8000000 in
theorem rRegister_any (op rg ty nn fl : Int) (ap tp : Option Addr) (al ac tl tc : Nat) (W : World) :
    Calls Tryz.prog 71 #[.agg #[.int .i64 op, .int .i64 rg, .int .i64 ty, .int .i64 nn, .int .i64 fl, .slice ap al ac, .slice tp tl tc]] W (Ans (.bool (hasRegI op rg)) W) := by
  have ci := fun w => ridle_any op w
  have cr := fun w => rIn_any rg 0 4095 w
  have hall : hasRegI op rg = if op = 30 then (regB rg || decide (rg = -1)) else if idleB op = true then regB rg else decide (rg = -1) := by
    unfold hasRegI
    by_cases h1 : op = 30
    · subst h1
      rw [if_pos rfl, show idleB 30 = false from rfl]
      by_cases h2 : rg = -1 <;> simp [h2]
    · rw [if_neg h1]
      by_cases h2 : rg = -1
      · subst h2
        cases idleB op <;> simp [regB]
      · cases idleB op <;> simp [h1, h2]
  rw [hall]
  clear hall
  obtain ⟨qi, ei⟩ : ∃ q, idleB op = q := ⟨_, rfl⟩
  obtain ⟨qr, er⟩ : ∃ q, regB rg = q := ⟨_, rfl⟩
  have cr : ∀ w, Calls Tryz.prog 98 #[.int .i64 rg, .int .i64 0, .int .i64 4095] w fun e w' => e = .returned (.bool (regB rg)) ∧ w' = w := cr
  simp only [ei] at ci
  simp only [er] at cr
  rw [ei, er]
  clear ei er
  by_cases h1 : op = 30
  · have d1 : (op == (30 : Int)) = true := by simp [h1]
    rw [if_pos h1]
    clear h1
    go_enter Tryz.func71, Tryz.ntmps71
    go_wp2_with fail
    refine (cr _).mono ?_
    rintro e w2 ⟨rfl, rfl⟩
    go_wp2_with fail
    refine (ci _).mono ?_
    rintro e w2 ⟨rfl, rfl⟩
    cases qr
    all_goals
      go_wp2
      all_goals go_ret
      all_goals exact ⟨ret_bool (by first | rfl | (rw [Bool.eq_iff_iff]; simp)), (Below.refl _ _).alloc (Nat.le_refl _) _⟩
  · have d1 : (op == (30 : Int)) = false := by simp; exact h1
    rw [if_neg h1]
    clear h1
    cases qi
    case false =>
      simp only [Bool.false_eq_true, if_false]
      go_enter Tryz.func71, Tryz.ntmps71
      go_wp2_with fail
      refine (cr _).mono ?_
      rintro e w2 ⟨rfl, rfl⟩
      go_wp2_with fail
      refine (ci _).mono ?_
      rintro e w2 ⟨rfl, rfl⟩
      go_wp2
      all_goals go_ret
      all_goals exact ⟨ret_bool (by first | rfl | (rw [Bool.eq_iff_iff]; simp)), (Below.refl _ _).alloc (Nat.le_refl _) _⟩
    case true =>
      simp only [if_true]
      go_enter Tryz.func71, Tryz.ntmps71
      go_wp2_with fail
      refine (cr _).mono ?_
      rintro e w2 ⟨rfl, rfl⟩
      go_wp2_with fail
      refine (ci _).mono ?_
      rintro e w2 ⟨rfl, rfl⟩
      go_wp2
      all_goals go_ret
      all_goals exact ⟨ret_bool (by first | rfl | (rw [Bool.eq_iff_iff]; simp)), (Below.refl _ _).alloc (Nat.le_refl _) _⟩
set_option maxRecDepth 100000 in
set_option maxHeartbeats 4000000 in
theorem rOperand_any (m : LMod) (v : Arg) (hv : m.vn = m.vs.length) (W : World) :
    Calls Tryz.prog 72 #[.agg (modC m).toArray, .agg (argC v).toArray] W (Ans (.bool (argB (modD m) v)) W) := by
  obtain ⟨kd, nn, bt⟩ := v
  obtain ⟨vp, vn, vc, vs, xp, xn, xc, xs, fp, fn, fc, fs⟩ := m
  simp only at hv
  subst hv
  show Calls Tryz.prog 72 #[.agg #[.slice vp vs.length vc, .slice xp xn xc, .slice fp fn fc], .agg #[.int .i64 kd, .int .i64 nn, .int .u64 bt]] W (Ans (.bool (argB ⟨vs, xs.map extD, fs.map fnD⟩ ⟨kd, nn, bt⟩)) W)
  have hk : kd = 1 ∨ kd = 2 ∨ kd = 3 ∨ kd = 4 ∨ kd = 5 ∨ (kd ≠ 1 ∧ kd ≠ 2 ∧ kd ≠ 3 ∧ kd ≠ 4 ∧ kd ≠ 5) := by omega
  have B2 := below2 W (.cells #[.slice vp vs.length vc, .slice xp xn xc, .slice fp fn fc] 26) (.cells #[.int .i64 kd, .int .i64 nn, .int .u64 bt] 86)
  have HB2 := Lib.hid B2
  clear B2
  rcases hk with rfl | rfl | rfl | rfl | rfl | ⟨n1, n2, n3, n4, n5⟩
  · have cr : ∀ w, Calls Tryz.prog 98 #[.int .i64 nn, .int .i64 0, .int .i64 4095] w fun e w' => e = .returned (.bool (regB nn)) ∧ w' = w := fun w => rIn_any nn 0 4095 w
    have hA : argB ⟨vs, xs.map extD, fs.map fnD⟩ ⟨1, nn, bt⟩ = (regB nn && decide (bt = 0)) := rfl
    rw [hA]
    clear hA
    generalize regB nn = q at *
    go_enter Tryz.func72, Tryz.ntmps72
    go_wp2_with fail
    refine (cr _).mono ?_
    rintro e w2 ⟨rfl, rfl⟩
    cases q
    · go_wp2_with fail
      go_ret
      exact ⟨rfl, HB2.out⟩
    · go_wp2
      all_goals go_ret
      all_goals exact ⟨ret_bool (by rw [Bool.eq_iff_iff]; simp), HB2.out⟩
  · have hA : argB ⟨vs, xs.map extD, fs.map fnD⟩ ⟨2, nn, bt⟩ = decide (nn = 0) := rfl
    rw [hA]
    clear hA
    go_enter Tryz.func72, Tryz.ntmps72
    go_wp2
    all_goals go_ret
    all_goals exact ⟨ret_bool (by rw [Bool.eq_iff_iff]; simp <;> omega), below2 W _ _⟩
  · have hA : argB ⟨vs, xs.map extD, fs.map fnD⟩ ⟨3, nn, bt⟩ = decide (nn = 0 ∧ bt = 0) := rfl
    rw [hA]
    clear hA
    go_enter Tryz.func72, Tryz.ntmps72
    go_wp2
    all_goals go_ret
    all_goals exact ⟨ret_bool (by rw [Bool.eq_iff_iff]; simp <;> omega), below2 W _ _⟩
  · have hA : argB ⟨vs, xs.map extD, fs.map fnD⟩ ⟨4, nn, bt⟩ = decide (nn = 0 ∧ bt = 0) := rfl
    rw [hA]
    clear hA
    go_enter Tryz.func72, Tryz.ntmps72
    go_wp2
    all_goals go_ret
    all_goals exact ⟨ret_bool (by rw [Bool.eq_iff_iff]; simp <;> omega), below2 W _ _⟩
  · have hA : argB ⟨vs, xs.map extD, fs.map fnD⟩ ⟨5, nn, bt⟩ = decide (0 ≤ nn ∧ nn < vs.length ∧ bt = 0) := rfl
    rw [hA]
    clear hA
    go_enter Tryz.func72, Tryz.ntmps72
    go_wp2
    all_goals go_ret
    all_goals exact ⟨ret_bool (by rw [Bool.eq_iff_iff]; simp <;> omega), below2 W _ _⟩
  · have hA : argB ⟨vs, xs.map extD, fs.map fnD⟩ ⟨kd, nn, bt⟩ = false := by
      unfold argB
      simp only
      rw [if_neg n1, if_neg n2, if_neg (by omega), if_neg n5]
    rw [hA]
    have e1 : (kd == (1 : Int)) = false := by simp; exact n1
    have e2 : (kd == (2 : Int)) = false := by simp; exact n2
    have e3 : (kd == (3 : Int)) = false := by simp; exact n3
    have e4 : (kd == (4 : Int)) = false := by simp; exact n4
    have e5 : (kd == (5 : Int)) = false := by simp; exact n5
    clear hA n1 n2 n3 n4 n5
    go_enter Tryz.func72, Tryz.ntmps72
    go_wp2_with fail
    go_ret
    exact ⟨rfl, HB2.out⟩
def rtyI (m : PMod) (op ty n : Int) (al : Nat) : Bool :=
  if op = 26 ∨ op = 29 then decide (ty = 65)
  else if op = 30 then decide (calR m.xs m.fs n = some ty) && tyB ty
  else if op = 31 ∨ op = 32 ∨ op = 34 then decide (ty = 0)
  else if op = 33 then tyB ty && decide (0 < al ∨ ty = 0)
  else tyB ty
set_option maxRecDepth 100000 in
set_option maxHeartbeats 8000000 in
theorem rTyped_any (m : LMod) (x : LI) (W : World) (hm : ModIn W.heap.size W m) (hn : -9223372036854775808 ≤ x.1.n) (hn' : x.1.n ≤ 9223372036854775807) :
    Calls Tryz.prog 69 #[.agg (modC m).toArray, .agg (liC x).toArray] W (Ans (.bool (rtyI (modD m) x.1.op x.1.ty x.1.n x.1.al)) W) := by
  have cc := fun w (hb : Below W.heap.size W w) => rCallee_any m x.1.n hn hn' w (lasts_Mod _ _ _ _ _ hb hb.size hm)
  obtain ⟨⟨op, rg, ty, nn, fl, ap, al, ac, tp, tl, tc, rs⟩, ts⟩ := x
  simp only at cc hn hn'
  obtain ⟨D, eD⟩ : ∃ D, modD m = D := ⟨_, rfl⟩
  rw [eD]
  obtain ⟨vp, vn, vc, vs, xp, xn, xc, xs, fp, fn, fc, fs⟩ := m
  have cc : ∀ w, Below W.heap.size W w → Calls Tryz.prog 99 #[.agg #[.slice vp vn vc, .slice xp xn xc, .slice fp fn fc], .int .i64 nn] w fun e w' => ∃ p k c ps t b, e = .returned (.tuple #[.slice p k c, .int .i64 t, .bool b]) ∧ callD D nn = (b, ps, t) ∧ Past w.heap.size w w' ∧ True := fun w hb => (cc w hb).mono (fun e w' ⟨p, k, c, ps, t, b, h1, h2, h3, _⟩ => ⟨p, k, c, ps, t, b, h1, by rw [← eD]; exact h2, ⟨Nat.le_refl _, h3⟩, trivial⟩)
  clear hm eD
  have ct : ∀ w, Calls Tryz.prog 98 #[.int .i64 ty, .int .i64 0, .int .i64 65] w fun e w' => e = .returned (.bool (tyB ty)) ∧ w' = w := fun w => rIn_any ty 0 65 w
  show Calls Tryz.prog 69 #[.agg #[.slice vp vn vc, .slice xp xn xc, .slice fp fn fc], .agg #[.int .i64 op, .int .i64 rg, .int .i64 ty, .int .i64 nn, .int .i64 fl, .slice ap al ac, .slice tp tl tc]] W (Ans (.bool (rtyI D op ty nn al)) W)
  have HB2 := Lib.hid (below2 W (.cells #[.slice vp vn vc, .slice xp xn xc, .slice fp fn fc] 26) (.cells #[.int .i64 op, .int .i64 rg, .int .i64 ty, .int .i64 nn, .int .i64 fl, .slice ap al ac, .slice tp tl tc] 39))
  rcases op_cases op with rfl | rfl | rfl | rfl | rfl | rfl | rfl | rfl | rfl | rfl | rfl | rfl | rfl | rfl | hno
  · have hT : rtyI D 20 ty nn al = tyB ty := by unfold rtyI; simp
    rw [hT]
    clear hT
    go_enter Tryz.func69, Tryz.ntmps69
    go_wp2_with fail
    refine (ct _).mono ?_
    rintro e w2 ⟨rfl, rfl⟩
    go_wp2_with fail
    go_ret
    exact ⟨rfl, HB2.out⟩
  · have hT : rtyI D 21 ty nn al = tyB ty := by unfold rtyI; simp
    rw [hT]
    clear hT
    go_enter Tryz.func69, Tryz.ntmps69
    go_wp2_with fail
    refine (ct _).mono ?_
    rintro e w2 ⟨rfl, rfl⟩
    go_wp2_with fail
    go_ret
    exact ⟨rfl, HB2.out⟩
  · have hT : rtyI D 22 ty nn al = tyB ty := by unfold rtyI; simp
    rw [hT]
    clear hT
    go_enter Tryz.func69, Tryz.ntmps69
    go_wp2_with fail
    refine (ct _).mono ?_
    rintro e w2 ⟨rfl, rfl⟩
    go_wp2_with fail
    go_ret
    exact ⟨rfl, HB2.out⟩
  · have hT : rtyI D 23 ty nn al = tyB ty := by unfold rtyI; simp
    rw [hT]
    clear hT
    go_enter Tryz.func69, Tryz.ntmps69
    go_wp2_with fail
    refine (ct _).mono ?_
    rintro e w2 ⟨rfl, rfl⟩
    go_wp2_with fail
    go_ret
    exact ⟨rfl, HB2.out⟩
  · have hT : rtyI D 24 ty nn al = tyB ty := by unfold rtyI; simp
    rw [hT]
    clear hT
    go_enter Tryz.func69, Tryz.ntmps69
    go_wp2_with fail
    refine (ct _).mono ?_
    rintro e w2 ⟨rfl, rfl⟩
    go_wp2_with fail
    go_ret
    exact ⟨rfl, HB2.out⟩
  · have hT : rtyI D 25 ty nn al = tyB ty := by unfold rtyI; simp
    rw [hT]
    clear hT
    go_enter Tryz.func69, Tryz.ntmps69
    go_wp2_with fail
    refine (ct _).mono ?_
    rintro e w2 ⟨rfl, rfl⟩
    go_wp2_with fail
    go_ret
    exact ⟨rfl, HB2.out⟩
  · have hT : rtyI D 26 ty nn al = decide (ty = 65) := by unfold rtyI; simp
    rw [hT]
    clear hT
    go_enter Tryz.func69, Tryz.ntmps69
    go_wp2
    all_goals go_ret
    all_goals exact ⟨ret_bool (by first | rfl | (rw [Bool.eq_iff_iff]; simp)), below2 W _ _⟩
  · have hT : rtyI D 27 ty nn al = tyB ty := by unfold rtyI; simp
    rw [hT]
    clear hT
    go_enter Tryz.func69, Tryz.ntmps69
    go_wp2_with fail
    refine (ct _).mono ?_
    rintro e w2 ⟨rfl, rfl⟩
    go_wp2_with fail
    go_ret
    exact ⟨rfl, HB2.out⟩
  · have hT : rtyI D 29 ty nn al = decide (ty = 65) := by unfold rtyI; simp
    rw [hT]
    clear hT
    go_enter Tryz.func69, Tryz.ntmps69
    go_wp2
    all_goals go_ret
    all_goals exact ⟨ret_bool (by first | rfl | (rw [Bool.eq_iff_iff]; simp)), below2 W _ _⟩
  · have hT : rtyI D 30 ty nn al = (decide (calR D.xs D.fs nn = some ty) && tyB ty) := by unfold rtyI; simp
    rw [hT]
    clear hT
    obtain ⟨q, eq⟩ : ∃ q, tyB ty = q := ⟨_, rfl⟩
    simp only [eq] at ct ⊢
    clear eq
    go_enter Tryz.func69, Tryz.ntmps69
    go_wp2_with fail
    refine (cc _ (below2 W _ _)).mono ?_
    rintro e w2 ⟨p, kk, c, ps, t, b, rfl, hcd, hp, -⟩
    have hb3 := HB2.out.trans (hp.2.mono HB2.out.size)
    have HB3 := Lib.hid hb3
    have gk : w2.cell? ⟨W.heap.size + 1, 2, none⟩ = some (.int .i64 ty) := (hp.2.cell (p := ⟨W.heap.size + 1, 2, none⟩) (by simp)).trans (by rw [World.cell?_alloc_at _ _ _ _ (by simp)]; rfl)
    rcases callD_R hcd with ⟨rfl, hr⟩ | ⟨rfl, hr⟩
    · have HR := Lib.hid hr
      clear hp hcd hb3 hr
      by_cases h1 : t = ty
      · have d1 : (t == ty) = true := by simp [h1]
        have H1 := Lib.hid h1
        clear h1
        go_wp2_with fail
        refine (ct _).mono ?_
        rintro e w3 ⟨rfl, rfl⟩
        go_wp2_with fail
        go_ret
        exact ⟨ret_bool (by rw [HR.out, H1.out]; simp), HB3.out⟩
      · have d1 : (t == ty) = false := by simp; exact h1
        have H1 := Lib.hid h1
        clear h1
        go_wp2_with fail
        go_ret
        exact ⟨ret_bool (by rw [HR.out]; simp [H1.out]), HB3.out⟩
    · have HR := Lib.hid hr
      clear hp hcd hb3 hr
      go_wp2_with fail
      go_ret
      exact ⟨ret_bool (by rw [HR.out]; simp), HB3.out⟩
  · have hT : rtyI D 31 ty nn al = decide (ty = 0) := by unfold rtyI; simp
    rw [hT]
    clear hT
    go_enter Tryz.func69, Tryz.ntmps69
    go_wp2
    all_goals go_ret
    all_goals exact ⟨ret_bool (by first | rfl | (rw [Bool.eq_iff_iff]; simp)), below2 W _ _⟩
  · have hT : rtyI D 32 ty nn al = decide (ty = 0) := by unfold rtyI; simp
    rw [hT]
    clear hT
    go_enter Tryz.func69, Tryz.ntmps69
    go_wp2
    all_goals go_ret
    all_goals exact ⟨ret_bool (by first | rfl | (rw [Bool.eq_iff_iff]; simp)), below2 W _ _⟩
  · have hT : rtyI D 33 ty nn al = (tyB ty && decide (0 < al ∨ ty = 0)) := by unfold rtyI; simp
    rw [hT]
    clear hT
    obtain ⟨q, eq⟩ : ∃ q, tyB ty = q := ⟨_, rfl⟩
    simp only [eq] at ct ⊢
    clear eq
    go_enter Tryz.func69, Tryz.ntmps69
    go_wp2_with fail
    refine (ct _).mono ?_
    rintro e w2 ⟨rfl, rfl⟩
    cases q
    · go_wp2_with fail
      go_ret
      exact ⟨rfl, HB2.out⟩
    · go_wp2
      all_goals go_ret
      all_goals exact ⟨ret_bool (by first | rfl | (rw [Bool.eq_iff_iff]; simp <;> omega)), below2 W _ _⟩
  · have hT : rtyI D 34 ty nn al = decide (ty = 0) := by unfold rtyI; simp
    rw [hT]
    clear hT
    go_enter Tryz.func69, Tryz.ntmps69
    go_wp2
    all_goals go_ret
    all_goals exact ⟨ret_bool (by first | rfl | (rw [Bool.eq_iff_iff]; simp)), below2 W _ _⟩
  · obtain ⟨n20, n21, n22, n23, n24, n25, n26, n27, n29, n30, n31, n32, n33, n34⟩ := hno
    have e20 : (op == (20 : Int)) = false := by simp; omega
    have e21 : (op == (21 : Int)) = false := by simp; omega
    have e22 : (op == (22 : Int)) = false := by simp; omega
    have e23 : (op == (23 : Int)) = false := by simp; omega
    have e24 : (op == (24 : Int)) = false := by simp; omega
    have e25 : (op == (25 : Int)) = false := by simp; omega
    have e26 : (op == (26 : Int)) = false := by simp; omega
    have e27 : (op == (27 : Int)) = false := by simp; omega
    have e29 : (op == (29 : Int)) = false := by simp; omega
    have e30 : (op == (30 : Int)) = false := by simp; omega
    have e31 : (op == (31 : Int)) = false := by simp; omega
    have e32 : (op == (32 : Int)) = false := by simp; omega
    have e33 : (op == (33 : Int)) = false := by simp; omega
    have e34 : (op == (34 : Int)) = false := by simp; omega
    have hT : rtyI D op ty nn al = tyB ty := by unfold rtyI; simp [*]
    rw [hT]
    clear hT
    clear n20 n21 n22 n23 n24 n25 n26 n27 n29 n30 n31 n32 n33 n34
    go_enter Tryz.func69, Tryz.ntmps69
    go_wp2_with fail
    refine (ct _).mono ?_
    rintro e w2 ⟨rfl, rfl⟩
    go_wp2_with fail
    go_ret
    exact ⟨rfl, HB2.out⟩
end Go.Proofs.YtmampoakdjjbiaaGreatDoor
