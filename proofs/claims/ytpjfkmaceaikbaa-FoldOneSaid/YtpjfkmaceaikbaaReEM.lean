/- The document's eval (latheref10): kind, such. -/
import Derived.Test.YtpjfkmaceaikbaaReFM
import Derived.Deep.QuietTactic
import Derived.BigQuiet
namespace Go.Proofs.Ytpjfkmaceaikbaa
open Go.RowKit Go.Maps
set_option linter.unusedVariables false
set_option linter.unusedSimpArgs false
set_option maxRecDepth 100000
set_option maxHeartbeats 16000000

theorem rKind_any (op rg ty n fl : Int) (ap : Option Addr) (al ac : Nat) (tp : Option Addr) (tl tc : Nat) (k : Int) (W : World) :
    Calls Try.prog 27 #[.agg #[.int .i64 op, .int .i64 rg, .int .i64 ty, .int .i64 n, .int .i64 fl, .slice ap al ac, .slice tp tl tc], .int .i64 k] W fun e w' => e = .returned (.int .i64 (wntE op ty n k)) ∧ Below W.heap.size W w' := by
  by_cases o20 : op = 20
  · subst o20
    have e : wntE 20 ty n k = n := by simp [wntE]
    rw [e]
    clear e
    have F := ((Fr.start W).push (g := W.heap.size) (by simp) [.int .i64 20, .int .i64 rg, .int .i64 ty, .int .i64 n, .int .i64 fl, .slice ap al ac, .slice tp tl tc] 25)
    have G := Lib.hid F
    clear F
    go_enter Try.func27, Try.ntmps27
    go_wp2_with fail
    go_ret
    exact ⟨rfl, G.out.1⟩
  by_cases o21 : op = 21
  · subst o21
    have e : wntE 21 ty n k = n := by simp [wntE]
    rw [e]
    clear e
    have F := ((Fr.start W).push (g := W.heap.size) (by simp) [.int .i64 21, .int .i64 rg, .int .i64 ty, .int .i64 n, .int .i64 fl, .slice ap al ac, .slice tp tl tc] 25)
    have G := Lib.hid F
    clear F
    go_enter Try.func27, Try.ntmps27
    go_wp2_with fail
    go_ret
    exact ⟨rfl, G.out.1⟩
  by_cases o22 : op = 22
  · subst o22
    have e : wntE 22 ty n k = n := by simp [wntE]
    rw [e]
    clear e
    have F := ((Fr.start W).push (g := W.heap.size) (by simp) [.int .i64 22, .int .i64 rg, .int .i64 ty, .int .i64 n, .int .i64 fl, .slice ap al ac, .slice tp tl tc] 25)
    have G := Lib.hid F
    clear F
    go_enter Try.func27, Try.ntmps27
    go_wp2_with fail
    go_ret
    exact ⟨rfl, G.out.1⟩
  by_cases o23 : op = 23
  · subst o23
    by_cases hk : k = 0
    · subst hk
      have e : wntE 23 ty n 0 = 1 := by simp [wntE]
      rw [e]
      clear e
      have F := ((Fr.start W).push (g := W.heap.size) (by simp) [.int .i64 23, .int .i64 rg, .int .i64 ty, .int .i64 n, .int .i64 fl, .slice ap al ac, .slice tp tl tc] 25)
      have G := Lib.hid F
      clear F
      go_enter Try.func27, Try.ntmps27
      go_wp2_with fail
      go_ret
      exact ⟨rfl, G.out.1⟩
    ·
      have e : wntE 23 ty n k = ty := by simp [wntE, hk]
      rw [e]
      clear e
      have hk2 : (k == 0) = false := by simpa using hk
      have F := ((Fr.start W).push (g := W.heap.size) (by simp) [.int .i64 23, .int .i64 rg, .int .i64 ty, .int .i64 n, .int .i64 fl, .slice ap al ac, .slice tp tl tc] 25)
      have G := Lib.hid F
      clear F
      go_enter Try.func27, Try.ntmps27
      go_wp2_with fail
      go_ret
      exact ⟨rfl, G.out.1⟩
  by_cases o29 : op = 29
  · subst o29
    by_cases hk : k = 1
    · subst hk
      have e : wntE 29 ty n 1 = 64 := by simp [wntE]
      rw [e]
      clear e
      have F := ((Fr.start W).push (g := W.heap.size) (by simp) [.int .i64 29, .int .i64 rg, .int .i64 ty, .int .i64 n, .int .i64 fl, .slice ap al ac, .slice tp tl tc] 25)
      have G := Lib.hid F
      clear F
      go_enter Try.func27, Try.ntmps27
      go_wp2_with fail
      go_ret
      exact ⟨rfl, G.out.1⟩
    ·
      have e : wntE 29 ty n k = ty := by simp [wntE, hk]
      rw [e]
      clear e
      have hk2 : (k == 1) = false := by simpa using hk
      have F := ((Fr.start W).push (g := W.heap.size) (by simp) [.int .i64 29, .int .i64 rg, .int .i64 ty, .int .i64 n, .int .i64 fl, .slice ap al ac, .slice tp tl tc] 25)
      have G := Lib.hid F
      clear F
      go_enter Try.func27, Try.ntmps27
      go_wp2_with fail
      go_ret
      exact ⟨rfl, G.out.1⟩
  have e : wntE op ty n k = ty := by simp [wntE, o20, o21, o22, o23, o29]
  rw [e]
  clear e
  have p20 : (op == 20) = false := by simpa using o20
  have p21 : (op == 21) = false := by simpa using o21
  have p22 : (op == 22) = false := by simpa using o22
  have p23 : (op == 23) = false := by simpa using o23
  have p29 : (op == 29) = false := by simpa using o29
  clear o20 o21 o22 o23 o29
  have F := ((Fr.start W).push (g := W.heap.size) (by simp) [.int .i64 op, .int .i64 rg, .int .i64 ty, .int .i64 n, .int .i64 fl, .slice ap al ac, .slice tp tl tc] 25)
  have G := Lib.hid F
  clear F
  go_enter Try.func27, Try.ntmps27
  go_wp2_with fail
  go_ret
  exact ⟨rfl, G.out.1⟩
theorem rSuch_of (op rg ty n fl : Int) (ap : Option Addr) (al ac : Nat) (tp : Option Addr) (tl tc : Nat) (k z : Int) (g : Int) (cb : Bool) (W : World)
    (cF : ∀ W, Calls Try.prog 47 #[.int .i64 op] W fun e w' => e = .returned (.int .i64 g) ∧ W = w')
    (cC : ∀ W, Calls Try.prog 32 #[.int .i64 op, .int .i64 n, .int .i64 ty, .int .u64 0] W fun e w' => e = .returned (.tuple #[.int .u64 z, .bool cb]) ∧ Below W.heap.size W w') :
    Calls Try.prog 25 #[.agg #[.int .i64 op, .int .i64 rg, .int .i64 ty, .int .i64 n, .int .i64 fl, .slice ap al ac, .slice tp tl tc], .int .i64 k] W fun e w' => e = .returned (.bool (if bits .andNot .i64 fl g = 0 then (if op = 14 ∨ op = 15 then decide (k = 2) && (decide (1 ≤ ty) && decide (ty ≤ 65)) else if op = 20 ∨ op = 21 ∨ op = 22 then decide (k = 1) && cb else if op = 23 then decide (k = 3) && (decide (1 ≤ ty) && decide (ty ≤ 65)) else if op = 24 then decide (k = 1) && (decide (1 ≤ ty) && decide (ty ≤ 65)) else if op = 29 then decide (k = 2) && decide (ty = 65) else (decide (1 ≤ op) && decide (op ≤ 19)) && (decide (k = 2) && (decide (1 ≤ ty) && decide (ty ≤ 64)))) else false)) ∧ Below W.heap.size W w' := by
  by_cases hf : bits .andNot .i64 fl g = 0
  · rw [if_pos hf]
    have hfz : (bits .andNot .i64 fl g != 0) = false := by simpa using hf
    by_cases o14 : op = 14
    · subst o14
      rw [if_pos (by simp)]
      by_cases hk : k = 2
      · by_cases t1 : 1 ≤ ty
        · by_cases t2 : ty ≤ 65
          · have e : (decide (k = 2) && (decide (1 ≤ ty) && decide (ty ≤ 65))) = true := by simp [hk, t1, t2]
            rw [e]
            clear e
            have hkz : (k == 2) = true := by simpa using hk
            have F := ((Fr.start W).push (g := W.heap.size) (by simp) [.int .i64 14, .int .i64 rg, .int .i64 ty, .int .i64 n, .int .i64 fl, .slice ap al ac, .slice tp tl tc] 25)
            have G := Lib.hid F
            clear F
            go_enter Try.func25, Try.ntmps25
            go_wp2_with fail
            go_quiet ((go_at_call 47; exact Calls.quiet_of_same ((cF _).mono fun _ _ ⟨x, y⟩ => ⟨x, y.symm⟩)))
            replace G := Lib.hid (G.out.drewN nq)
            go_wp2_with (fail)
            go_ret
            exact ⟨rfl, G.out.1⟩
          · have e : (decide (k = 2) && (decide (1 ≤ ty) && decide (ty ≤ 65))) = false := by simp [hk, t1, t2]
            rw [e]
            clear e
            have hkz : (k == 2) = true := by simpa using hk
            have t2z : decide (ty ≤ 65) = false := decide_eq_false t2
            have F := ((Fr.start W).push (g := W.heap.size) (by simp) [.int .i64 14, .int .i64 rg, .int .i64 ty, .int .i64 n, .int .i64 fl, .slice ap al ac, .slice tp tl tc] 25)
            have G := Lib.hid F
            clear F
            go_enter Try.func25, Try.ntmps25
            go_wp2_with fail
            go_quiet ((go_at_call 47; exact Calls.quiet_of_same ((cF _).mono fun _ _ ⟨x, y⟩ => ⟨x, y.symm⟩)))
            replace G := Lib.hid (G.out.drewN nq)
            go_wp2_with (fail)
            go_ret
            exact ⟨rfl, G.out.1⟩
        · by_cases t2 : ty ≤ 65
          · have e : (decide (k = 2) && (decide (1 ≤ ty) && decide (ty ≤ 65))) = false := by simp [hk, t1, t2]
            rw [e]
            clear e
            have hkz : (k == 2) = true := by simpa using hk
            have t1z : decide (1 ≤ ty) = false := decide_eq_false t1
            have F := ((Fr.start W).push (g := W.heap.size) (by simp) [.int .i64 14, .int .i64 rg, .int .i64 ty, .int .i64 n, .int .i64 fl, .slice ap al ac, .slice tp tl tc] 25)
            have G := Lib.hid F
            clear F
            go_enter Try.func25, Try.ntmps25
            go_wp2_with fail
            go_quiet ((go_at_call 47; exact Calls.quiet_of_same ((cF _).mono fun _ _ ⟨x, y⟩ => ⟨x, y.symm⟩)))
            replace G := Lib.hid (G.out.drewN nq)
            go_wp2_with (fail)
            go_ret
            exact ⟨rfl, G.out.1⟩
          · exfalso; omega
      · by_cases t1 : 1 ≤ ty
        · by_cases t2 : ty ≤ 65
          · have e : (decide (k = 2) && (decide (1 ≤ ty) && decide (ty ≤ 65))) = false := by simp [hk, t1, t2]
            rw [e]
            clear e
            have hkz : (k == 2) = false := by simpa using hk
            have F := ((Fr.start W).push (g := W.heap.size) (by simp) [.int .i64 14, .int .i64 rg, .int .i64 ty, .int .i64 n, .int .i64 fl, .slice ap al ac, .slice tp tl tc] 25)
            have G := Lib.hid F
            clear F
            go_enter Try.func25, Try.ntmps25
            go_wp2_with fail
            go_quiet ((go_at_call 47; exact Calls.quiet_of_same ((cF _).mono fun _ _ ⟨x, y⟩ => ⟨x, y.symm⟩)))
            replace G := Lib.hid (G.out.drewN nq)
            go_wp2_with (fail)
            go_ret
            exact ⟨rfl, G.out.1⟩
          · have e : (decide (k = 2) && (decide (1 ≤ ty) && decide (ty ≤ 65))) = false := by simp [hk, t1, t2]
            rw [e]
            clear e
            have hkz : (k == 2) = false := by simpa using hk
            have t2z : decide (ty ≤ 65) = false := decide_eq_false t2
            have F := ((Fr.start W).push (g := W.heap.size) (by simp) [.int .i64 14, .int .i64 rg, .int .i64 ty, .int .i64 n, .int .i64 fl, .slice ap al ac, .slice tp tl tc] 25)
            have G := Lib.hid F
            clear F
            go_enter Try.func25, Try.ntmps25
            go_wp2_with fail
            go_quiet ((go_at_call 47; exact Calls.quiet_of_same ((cF _).mono fun _ _ ⟨x, y⟩ => ⟨x, y.symm⟩)))
            replace G := Lib.hid (G.out.drewN nq)
            go_wp2_with (fail)
            go_ret
            exact ⟨rfl, G.out.1⟩
        · by_cases t2 : ty ≤ 65
          · have e : (decide (k = 2) && (decide (1 ≤ ty) && decide (ty ≤ 65))) = false := by simp [hk, t1, t2]
            rw [e]
            clear e
            have hkz : (k == 2) = false := by simpa using hk
            have t1z : decide (1 ≤ ty) = false := decide_eq_false t1
            have F := ((Fr.start W).push (g := W.heap.size) (by simp) [.int .i64 14, .int .i64 rg, .int .i64 ty, .int .i64 n, .int .i64 fl, .slice ap al ac, .slice tp tl tc] 25)
            have G := Lib.hid F
            clear F
            go_enter Try.func25, Try.ntmps25
            go_wp2_with fail
            go_quiet ((go_at_call 47; exact Calls.quiet_of_same ((cF _).mono fun _ _ ⟨x, y⟩ => ⟨x, y.symm⟩)))
            replace G := Lib.hid (G.out.drewN nq)
            go_wp2_with (fail)
            go_ret
            exact ⟨rfl, G.out.1⟩
          · exfalso; omega
    by_cases o15 : op = 15
    · subst o15
      rw [if_pos (by simp)]
      by_cases hk : k = 2
      · by_cases t1 : 1 ≤ ty
        · by_cases t2 : ty ≤ 65
          · have e : (decide (k = 2) && (decide (1 ≤ ty) && decide (ty ≤ 65))) = true := by simp [hk, t1, t2]
            rw [e]
            clear e
            have hkz : (k == 2) = true := by simpa using hk
            have F := ((Fr.start W).push (g := W.heap.size) (by simp) [.int .i64 15, .int .i64 rg, .int .i64 ty, .int .i64 n, .int .i64 fl, .slice ap al ac, .slice tp tl tc] 25)
            have G := Lib.hid F
            clear F
            go_enter Try.func25, Try.ntmps25
            go_wp2_with fail
            go_quiet ((go_at_call 47; exact Calls.quiet_of_same ((cF _).mono fun _ _ ⟨x, y⟩ => ⟨x, y.symm⟩)))
            replace G := Lib.hid (G.out.drewN nq)
            go_wp2_with (fail)
            go_ret
            exact ⟨rfl, G.out.1⟩
          · have e : (decide (k = 2) && (decide (1 ≤ ty) && decide (ty ≤ 65))) = false := by simp [hk, t1, t2]
            rw [e]
            clear e
            have hkz : (k == 2) = true := by simpa using hk
            have t2z : decide (ty ≤ 65) = false := decide_eq_false t2
            have F := ((Fr.start W).push (g := W.heap.size) (by simp) [.int .i64 15, .int .i64 rg, .int .i64 ty, .int .i64 n, .int .i64 fl, .slice ap al ac, .slice tp tl tc] 25)
            have G := Lib.hid F
            clear F
            go_enter Try.func25, Try.ntmps25
            go_wp2_with fail
            go_quiet ((go_at_call 47; exact Calls.quiet_of_same ((cF _).mono fun _ _ ⟨x, y⟩ => ⟨x, y.symm⟩)))
            replace G := Lib.hid (G.out.drewN nq)
            go_wp2_with (fail)
            go_ret
            exact ⟨rfl, G.out.1⟩
        · by_cases t2 : ty ≤ 65
          · have e : (decide (k = 2) && (decide (1 ≤ ty) && decide (ty ≤ 65))) = false := by simp [hk, t1, t2]
            rw [e]
            clear e
            have hkz : (k == 2) = true := by simpa using hk
            have t1z : decide (1 ≤ ty) = false := decide_eq_false t1
            have F := ((Fr.start W).push (g := W.heap.size) (by simp) [.int .i64 15, .int .i64 rg, .int .i64 ty, .int .i64 n, .int .i64 fl, .slice ap al ac, .slice tp tl tc] 25)
            have G := Lib.hid F
            clear F
            go_enter Try.func25, Try.ntmps25
            go_wp2_with fail
            go_quiet ((go_at_call 47; exact Calls.quiet_of_same ((cF _).mono fun _ _ ⟨x, y⟩ => ⟨x, y.symm⟩)))
            replace G := Lib.hid (G.out.drewN nq)
            go_wp2_with (fail)
            go_ret
            exact ⟨rfl, G.out.1⟩
          · exfalso; omega
      · by_cases t1 : 1 ≤ ty
        · by_cases t2 : ty ≤ 65
          · have e : (decide (k = 2) && (decide (1 ≤ ty) && decide (ty ≤ 65))) = false := by simp [hk, t1, t2]
            rw [e]
            clear e
            have hkz : (k == 2) = false := by simpa using hk
            have F := ((Fr.start W).push (g := W.heap.size) (by simp) [.int .i64 15, .int .i64 rg, .int .i64 ty, .int .i64 n, .int .i64 fl, .slice ap al ac, .slice tp tl tc] 25)
            have G := Lib.hid F
            clear F
            go_enter Try.func25, Try.ntmps25
            go_wp2_with fail
            go_quiet ((go_at_call 47; exact Calls.quiet_of_same ((cF _).mono fun _ _ ⟨x, y⟩ => ⟨x, y.symm⟩)))
            replace G := Lib.hid (G.out.drewN nq)
            go_wp2_with (fail)
            go_ret
            exact ⟨rfl, G.out.1⟩
          · have e : (decide (k = 2) && (decide (1 ≤ ty) && decide (ty ≤ 65))) = false := by simp [hk, t1, t2]
            rw [e]
            clear e
            have hkz : (k == 2) = false := by simpa using hk
            have t2z : decide (ty ≤ 65) = false := decide_eq_false t2
            have F := ((Fr.start W).push (g := W.heap.size) (by simp) [.int .i64 15, .int .i64 rg, .int .i64 ty, .int .i64 n, .int .i64 fl, .slice ap al ac, .slice tp tl tc] 25)
            have G := Lib.hid F
            clear F
            go_enter Try.func25, Try.ntmps25
            go_wp2_with fail
            go_quiet ((go_at_call 47; exact Calls.quiet_of_same ((cF _).mono fun _ _ ⟨x, y⟩ => ⟨x, y.symm⟩)))
            replace G := Lib.hid (G.out.drewN nq)
            go_wp2_with (fail)
            go_ret
            exact ⟨rfl, G.out.1⟩
        · by_cases t2 : ty ≤ 65
          · have e : (decide (k = 2) && (decide (1 ≤ ty) && decide (ty ≤ 65))) = false := by simp [hk, t1, t2]
            rw [e]
            clear e
            have hkz : (k == 2) = false := by simpa using hk
            have t1z : decide (1 ≤ ty) = false := decide_eq_false t1
            have F := ((Fr.start W).push (g := W.heap.size) (by simp) [.int .i64 15, .int .i64 rg, .int .i64 ty, .int .i64 n, .int .i64 fl, .slice ap al ac, .slice tp tl tc] 25)
            have G := Lib.hid F
            clear F
            go_enter Try.func25, Try.ntmps25
            go_wp2_with fail
            go_quiet ((go_at_call 47; exact Calls.quiet_of_same ((cF _).mono fun _ _ ⟨x, y⟩ => ⟨x, y.symm⟩)))
            replace G := Lib.hid (G.out.drewN nq)
            go_wp2_with (fail)
            go_ret
            exact ⟨rfl, G.out.1⟩
          · exfalso; omega
    rw [if_neg (by simp [o14, o15])]
    by_cases o20 : op = 20
    · subst o20
      rw [if_pos (by simp)]
      cases cb
      · by_cases hk : k = 1
        · have e : (decide (k = 1) && false) = false := by simp [hk]
          rw [e]
          clear e
          have hkz : (k == 1) = true := by simpa using hk
          have F := ((Fr.start W).push (g := W.heap.size) (by simp) [.int .i64 20, .int .i64 rg, .int .i64 ty, .int .i64 n, .int .i64 fl, .slice ap al ac, .slice tp tl tc] 25)
          have G := Lib.hid F
          clear F
          go_enter Try.func25, Try.ntmps25
          go_wp2_with fail
          go_quiet ((go_at_call 47; exact Calls.quiet_of_same ((cF _).mono fun _ _ ⟨x, y⟩ => ⟨x, y.symm⟩)))
          replace G := Lib.hid (G.out.drewN nq)
          go_wp2_with ((first | ((try go_simp); (with_reducible refine (cC _).mono ?_); rintro e w1 ⟨rfl, hb⟩; have F := G.out.later hb; (try clear i0 i1 i2 i3 i4 i5 i6); obtain ⟨i0, i1, i2, i3, i4, i5, i6⟩ := F.c7 0 rfl; replace G := Lib.hid F; clear F hb)))
          go_ret
          exact ⟨rfl, G.out.1⟩
        · have e : (decide (k = 1) && false) = false := by simp [hk]
          rw [e]
          clear e
          have hkz : (k == 1) = false := by simpa using hk
          have F := ((Fr.start W).push (g := W.heap.size) (by simp) [.int .i64 20, .int .i64 rg, .int .i64 ty, .int .i64 n, .int .i64 fl, .slice ap al ac, .slice tp tl tc] 25)
          have G := Lib.hid F
          clear F
          go_enter Try.func25, Try.ntmps25
          go_wp2_with fail
          go_quiet ((go_at_call 47; exact Calls.quiet_of_same ((cF _).mono fun _ _ ⟨x, y⟩ => ⟨x, y.symm⟩)))
          replace G := Lib.hid (G.out.drewN nq)
          go_wp2_with ((first | ((try go_simp); (with_reducible refine (cC _).mono ?_); rintro e w1 ⟨rfl, hb⟩; have F := G.out.later hb; (try clear i0 i1 i2 i3 i4 i5 i6); obtain ⟨i0, i1, i2, i3, i4, i5, i6⟩ := F.c7 0 rfl; replace G := Lib.hid F; clear F hb)))
          go_ret
          exact ⟨rfl, G.out.1⟩
      · by_cases hk : k = 1
        · have e : (decide (k = 1) && true) = true := by simp [hk]
          rw [e]
          clear e
          have hkz : (k == 1) = true := by simpa using hk
          have F := ((Fr.start W).push (g := W.heap.size) (by simp) [.int .i64 20, .int .i64 rg, .int .i64 ty, .int .i64 n, .int .i64 fl, .slice ap al ac, .slice tp tl tc] 25)
          have G := Lib.hid F
          clear F
          go_enter Try.func25, Try.ntmps25
          go_wp2_with fail
          go_quiet ((go_at_call 47; exact Calls.quiet_of_same ((cF _).mono fun _ _ ⟨x, y⟩ => ⟨x, y.symm⟩)))
          replace G := Lib.hid (G.out.drewN nq)
          go_wp2_with ((first | ((try go_simp); (with_reducible refine (cC _).mono ?_); rintro e w1 ⟨rfl, hb⟩; have F := G.out.later hb; (try clear i0 i1 i2 i3 i4 i5 i6); obtain ⟨i0, i1, i2, i3, i4, i5, i6⟩ := F.c7 0 rfl; replace G := Lib.hid F; clear F hb)))
          go_ret
          exact ⟨rfl, G.out.1⟩
        · have e : (decide (k = 1) && true) = false := by simp [hk]
          rw [e]
          clear e
          have hkz : (k == 1) = false := by simpa using hk
          have F := ((Fr.start W).push (g := W.heap.size) (by simp) [.int .i64 20, .int .i64 rg, .int .i64 ty, .int .i64 n, .int .i64 fl, .slice ap al ac, .slice tp tl tc] 25)
          have G := Lib.hid F
          clear F
          go_enter Try.func25, Try.ntmps25
          go_wp2_with fail
          go_quiet ((go_at_call 47; exact Calls.quiet_of_same ((cF _).mono fun _ _ ⟨x, y⟩ => ⟨x, y.symm⟩)))
          replace G := Lib.hid (G.out.drewN nq)
          go_wp2_with ((first | ((try go_simp); (with_reducible refine (cC _).mono ?_); rintro e w1 ⟨rfl, hb⟩; have F := G.out.later hb; (try clear i0 i1 i2 i3 i4 i5 i6); obtain ⟨i0, i1, i2, i3, i4, i5, i6⟩ := F.c7 0 rfl; replace G := Lib.hid F; clear F hb)))
          go_ret
          exact ⟨rfl, G.out.1⟩
    by_cases o21 : op = 21
    · subst o21
      rw [if_pos (by simp)]
      cases cb
      · by_cases hk : k = 1
        · have e : (decide (k = 1) && false) = false := by simp [hk]
          rw [e]
          clear e
          have hkz : (k == 1) = true := by simpa using hk
          have F := ((Fr.start W).push (g := W.heap.size) (by simp) [.int .i64 21, .int .i64 rg, .int .i64 ty, .int .i64 n, .int .i64 fl, .slice ap al ac, .slice tp tl tc] 25)
          have G := Lib.hid F
          clear F
          go_enter Try.func25, Try.ntmps25
          go_wp2_with fail
          go_quiet ((go_at_call 47; exact Calls.quiet_of_same ((cF _).mono fun _ _ ⟨x, y⟩ => ⟨x, y.symm⟩)))
          replace G := Lib.hid (G.out.drewN nq)
          go_wp2_with ((first | ((try go_simp); (with_reducible refine (cC _).mono ?_); rintro e w1 ⟨rfl, hb⟩; have F := G.out.later hb; (try clear i0 i1 i2 i3 i4 i5 i6); obtain ⟨i0, i1, i2, i3, i4, i5, i6⟩ := F.c7 0 rfl; replace G := Lib.hid F; clear F hb)))
          go_ret
          exact ⟨rfl, G.out.1⟩
        · have e : (decide (k = 1) && false) = false := by simp [hk]
          rw [e]
          clear e
          have hkz : (k == 1) = false := by simpa using hk
          have F := ((Fr.start W).push (g := W.heap.size) (by simp) [.int .i64 21, .int .i64 rg, .int .i64 ty, .int .i64 n, .int .i64 fl, .slice ap al ac, .slice tp tl tc] 25)
          have G := Lib.hid F
          clear F
          go_enter Try.func25, Try.ntmps25
          go_wp2_with fail
          go_quiet ((go_at_call 47; exact Calls.quiet_of_same ((cF _).mono fun _ _ ⟨x, y⟩ => ⟨x, y.symm⟩)))
          replace G := Lib.hid (G.out.drewN nq)
          go_wp2_with ((first | ((try go_simp); (with_reducible refine (cC _).mono ?_); rintro e w1 ⟨rfl, hb⟩; have F := G.out.later hb; (try clear i0 i1 i2 i3 i4 i5 i6); obtain ⟨i0, i1, i2, i3, i4, i5, i6⟩ := F.c7 0 rfl; replace G := Lib.hid F; clear F hb)))
          go_ret
          exact ⟨rfl, G.out.1⟩
      · by_cases hk : k = 1
        · have e : (decide (k = 1) && true) = true := by simp [hk]
          rw [e]
          clear e
          have hkz : (k == 1) = true := by simpa using hk
          have F := ((Fr.start W).push (g := W.heap.size) (by simp) [.int .i64 21, .int .i64 rg, .int .i64 ty, .int .i64 n, .int .i64 fl, .slice ap al ac, .slice tp tl tc] 25)
          have G := Lib.hid F
          clear F
          go_enter Try.func25, Try.ntmps25
          go_wp2_with fail
          go_quiet ((go_at_call 47; exact Calls.quiet_of_same ((cF _).mono fun _ _ ⟨x, y⟩ => ⟨x, y.symm⟩)))
          replace G := Lib.hid (G.out.drewN nq)
          go_wp2_with ((first | ((try go_simp); (with_reducible refine (cC _).mono ?_); rintro e w1 ⟨rfl, hb⟩; have F := G.out.later hb; (try clear i0 i1 i2 i3 i4 i5 i6); obtain ⟨i0, i1, i2, i3, i4, i5, i6⟩ := F.c7 0 rfl; replace G := Lib.hid F; clear F hb)))
          go_ret
          exact ⟨rfl, G.out.1⟩
        · have e : (decide (k = 1) && true) = false := by simp [hk]
          rw [e]
          clear e
          have hkz : (k == 1) = false := by simpa using hk
          have F := ((Fr.start W).push (g := W.heap.size) (by simp) [.int .i64 21, .int .i64 rg, .int .i64 ty, .int .i64 n, .int .i64 fl, .slice ap al ac, .slice tp tl tc] 25)
          have G := Lib.hid F
          clear F
          go_enter Try.func25, Try.ntmps25
          go_wp2_with fail
          go_quiet ((go_at_call 47; exact Calls.quiet_of_same ((cF _).mono fun _ _ ⟨x, y⟩ => ⟨x, y.symm⟩)))
          replace G := Lib.hid (G.out.drewN nq)
          go_wp2_with ((first | ((try go_simp); (with_reducible refine (cC _).mono ?_); rintro e w1 ⟨rfl, hb⟩; have F := G.out.later hb; (try clear i0 i1 i2 i3 i4 i5 i6); obtain ⟨i0, i1, i2, i3, i4, i5, i6⟩ := F.c7 0 rfl; replace G := Lib.hid F; clear F hb)))
          go_ret
          exact ⟨rfl, G.out.1⟩
    by_cases o22 : op = 22
    · subst o22
      rw [if_pos (by simp)]
      cases cb
      · by_cases hk : k = 1
        · have e : (decide (k = 1) && false) = false := by simp [hk]
          rw [e]
          clear e
          have hkz : (k == 1) = true := by simpa using hk
          have F := ((Fr.start W).push (g := W.heap.size) (by simp) [.int .i64 22, .int .i64 rg, .int .i64 ty, .int .i64 n, .int .i64 fl, .slice ap al ac, .slice tp tl tc] 25)
          have G := Lib.hid F
          clear F
          go_enter Try.func25, Try.ntmps25
          go_wp2_with fail
          go_quiet ((go_at_call 47; exact Calls.quiet_of_same ((cF _).mono fun _ _ ⟨x, y⟩ => ⟨x, y.symm⟩)))
          replace G := Lib.hid (G.out.drewN nq)
          go_wp2_with ((first | ((try go_simp); (with_reducible refine (cC _).mono ?_); rintro e w1 ⟨rfl, hb⟩; have F := G.out.later hb; (try clear i0 i1 i2 i3 i4 i5 i6); obtain ⟨i0, i1, i2, i3, i4, i5, i6⟩ := F.c7 0 rfl; replace G := Lib.hid F; clear F hb)))
          go_ret
          exact ⟨rfl, G.out.1⟩
        · have e : (decide (k = 1) && false) = false := by simp [hk]
          rw [e]
          clear e
          have hkz : (k == 1) = false := by simpa using hk
          have F := ((Fr.start W).push (g := W.heap.size) (by simp) [.int .i64 22, .int .i64 rg, .int .i64 ty, .int .i64 n, .int .i64 fl, .slice ap al ac, .slice tp tl tc] 25)
          have G := Lib.hid F
          clear F
          go_enter Try.func25, Try.ntmps25
          go_wp2_with fail
          go_quiet ((go_at_call 47; exact Calls.quiet_of_same ((cF _).mono fun _ _ ⟨x, y⟩ => ⟨x, y.symm⟩)))
          replace G := Lib.hid (G.out.drewN nq)
          go_wp2_with ((first | ((try go_simp); (with_reducible refine (cC _).mono ?_); rintro e w1 ⟨rfl, hb⟩; have F := G.out.later hb; (try clear i0 i1 i2 i3 i4 i5 i6); obtain ⟨i0, i1, i2, i3, i4, i5, i6⟩ := F.c7 0 rfl; replace G := Lib.hid F; clear F hb)))
          go_ret
          exact ⟨rfl, G.out.1⟩
      · by_cases hk : k = 1
        · have e : (decide (k = 1) && true) = true := by simp [hk]
          rw [e]
          clear e
          have hkz : (k == 1) = true := by simpa using hk
          have F := ((Fr.start W).push (g := W.heap.size) (by simp) [.int .i64 22, .int .i64 rg, .int .i64 ty, .int .i64 n, .int .i64 fl, .slice ap al ac, .slice tp tl tc] 25)
          have G := Lib.hid F
          clear F
          go_enter Try.func25, Try.ntmps25
          go_wp2_with fail
          go_quiet ((go_at_call 47; exact Calls.quiet_of_same ((cF _).mono fun _ _ ⟨x, y⟩ => ⟨x, y.symm⟩)))
          replace G := Lib.hid (G.out.drewN nq)
          go_wp2_with ((first | ((try go_simp); (with_reducible refine (cC _).mono ?_); rintro e w1 ⟨rfl, hb⟩; have F := G.out.later hb; (try clear i0 i1 i2 i3 i4 i5 i6); obtain ⟨i0, i1, i2, i3, i4, i5, i6⟩ := F.c7 0 rfl; replace G := Lib.hid F; clear F hb)))
          go_ret
          exact ⟨rfl, G.out.1⟩
        · have e : (decide (k = 1) && true) = false := by simp [hk]
          rw [e]
          clear e
          have hkz : (k == 1) = false := by simpa using hk
          have F := ((Fr.start W).push (g := W.heap.size) (by simp) [.int .i64 22, .int .i64 rg, .int .i64 ty, .int .i64 n, .int .i64 fl, .slice ap al ac, .slice tp tl tc] 25)
          have G := Lib.hid F
          clear F
          go_enter Try.func25, Try.ntmps25
          go_wp2_with fail
          go_quiet ((go_at_call 47; exact Calls.quiet_of_same ((cF _).mono fun _ _ ⟨x, y⟩ => ⟨x, y.symm⟩)))
          replace G := Lib.hid (G.out.drewN nq)
          go_wp2_with ((first | ((try go_simp); (with_reducible refine (cC _).mono ?_); rintro e w1 ⟨rfl, hb⟩; have F := G.out.later hb; (try clear i0 i1 i2 i3 i4 i5 i6); obtain ⟨i0, i1, i2, i3, i4, i5, i6⟩ := F.c7 0 rfl; replace G := Lib.hid F; clear F hb)))
          go_ret
          exact ⟨rfl, G.out.1⟩
    rw [if_neg (by simp [o20, o21, o22])]
    by_cases o23 : op = 23
    · subst o23
      rw [if_pos rfl]
      by_cases hk : k = 3
      · by_cases t1 : 1 ≤ ty
        · by_cases t2 : ty ≤ 65
          · have e : (decide (k = 3) && (decide (1 ≤ ty) && decide (ty ≤ 65))) = true := by simp [hk, t1, t2]
            rw [e]
            clear e
            have hkz : (k == 3) = true := by simpa using hk
            have F := ((Fr.start W).push (g := W.heap.size) (by simp) [.int .i64 23, .int .i64 rg, .int .i64 ty, .int .i64 n, .int .i64 fl, .slice ap al ac, .slice tp tl tc] 25)
            have G := Lib.hid F
            clear F
            go_enter Try.func25, Try.ntmps25
            go_wp2_with fail
            go_quiet ((go_at_call 47; exact Calls.quiet_of_same ((cF _).mono fun _ _ ⟨x, y⟩ => ⟨x, y.symm⟩)))
            replace G := Lib.hid (G.out.drewN nq)
            go_wp2_with (fail)
            go_ret
            exact ⟨rfl, G.out.1⟩
          · have e : (decide (k = 3) && (decide (1 ≤ ty) && decide (ty ≤ 65))) = false := by simp [hk, t1, t2]
            rw [e]
            clear e
            have hkz : (k == 3) = true := by simpa using hk
            have t2z : decide (ty ≤ 65) = false := decide_eq_false t2
            have F := ((Fr.start W).push (g := W.heap.size) (by simp) [.int .i64 23, .int .i64 rg, .int .i64 ty, .int .i64 n, .int .i64 fl, .slice ap al ac, .slice tp tl tc] 25)
            have G := Lib.hid F
            clear F
            go_enter Try.func25, Try.ntmps25
            go_wp2_with fail
            go_quiet ((go_at_call 47; exact Calls.quiet_of_same ((cF _).mono fun _ _ ⟨x, y⟩ => ⟨x, y.symm⟩)))
            replace G := Lib.hid (G.out.drewN nq)
            go_wp2_with (fail)
            go_ret
            exact ⟨rfl, G.out.1⟩
        · by_cases t2 : ty ≤ 65
          · have e : (decide (k = 3) && (decide (1 ≤ ty) && decide (ty ≤ 65))) = false := by simp [hk, t1, t2]
            rw [e]
            clear e
            have hkz : (k == 3) = true := by simpa using hk
            have t1z : decide (1 ≤ ty) = false := decide_eq_false t1
            have F := ((Fr.start W).push (g := W.heap.size) (by simp) [.int .i64 23, .int .i64 rg, .int .i64 ty, .int .i64 n, .int .i64 fl, .slice ap al ac, .slice tp tl tc] 25)
            have G := Lib.hid F
            clear F
            go_enter Try.func25, Try.ntmps25
            go_wp2_with fail
            go_quiet ((go_at_call 47; exact Calls.quiet_of_same ((cF _).mono fun _ _ ⟨x, y⟩ => ⟨x, y.symm⟩)))
            replace G := Lib.hid (G.out.drewN nq)
            go_wp2_with (fail)
            go_ret
            exact ⟨rfl, G.out.1⟩
          · exfalso; omega
      · by_cases t1 : 1 ≤ ty
        · by_cases t2 : ty ≤ 65
          · have e : (decide (k = 3) && (decide (1 ≤ ty) && decide (ty ≤ 65))) = false := by simp [hk, t1, t2]
            rw [e]
            clear e
            have hkz : (k == 3) = false := by simpa using hk
            have F := ((Fr.start W).push (g := W.heap.size) (by simp) [.int .i64 23, .int .i64 rg, .int .i64 ty, .int .i64 n, .int .i64 fl, .slice ap al ac, .slice tp tl tc] 25)
            have G := Lib.hid F
            clear F
            go_enter Try.func25, Try.ntmps25
            go_wp2_with fail
            go_quiet ((go_at_call 47; exact Calls.quiet_of_same ((cF _).mono fun _ _ ⟨x, y⟩ => ⟨x, y.symm⟩)))
            replace G := Lib.hid (G.out.drewN nq)
            go_wp2_with (fail)
            go_ret
            exact ⟨rfl, G.out.1⟩
          · have e : (decide (k = 3) && (decide (1 ≤ ty) && decide (ty ≤ 65))) = false := by simp [hk, t1, t2]
            rw [e]
            clear e
            have hkz : (k == 3) = false := by simpa using hk
            have t2z : decide (ty ≤ 65) = false := decide_eq_false t2
            have F := ((Fr.start W).push (g := W.heap.size) (by simp) [.int .i64 23, .int .i64 rg, .int .i64 ty, .int .i64 n, .int .i64 fl, .slice ap al ac, .slice tp tl tc] 25)
            have G := Lib.hid F
            clear F
            go_enter Try.func25, Try.ntmps25
            go_wp2_with fail
            go_quiet ((go_at_call 47; exact Calls.quiet_of_same ((cF _).mono fun _ _ ⟨x, y⟩ => ⟨x, y.symm⟩)))
            replace G := Lib.hid (G.out.drewN nq)
            go_wp2_with (fail)
            go_ret
            exact ⟨rfl, G.out.1⟩
        · by_cases t2 : ty ≤ 65
          · have e : (decide (k = 3) && (decide (1 ≤ ty) && decide (ty ≤ 65))) = false := by simp [hk, t1, t2]
            rw [e]
            clear e
            have hkz : (k == 3) = false := by simpa using hk
            have t1z : decide (1 ≤ ty) = false := decide_eq_false t1
            have F := ((Fr.start W).push (g := W.heap.size) (by simp) [.int .i64 23, .int .i64 rg, .int .i64 ty, .int .i64 n, .int .i64 fl, .slice ap al ac, .slice tp tl tc] 25)
            have G := Lib.hid F
            clear F
            go_enter Try.func25, Try.ntmps25
            go_wp2_with fail
            go_quiet ((go_at_call 47; exact Calls.quiet_of_same ((cF _).mono fun _ _ ⟨x, y⟩ => ⟨x, y.symm⟩)))
            replace G := Lib.hid (G.out.drewN nq)
            go_wp2_with (fail)
            go_ret
            exact ⟨rfl, G.out.1⟩
          · exfalso; omega
    rw [if_neg o23]
    by_cases o24 : op = 24
    · subst o24
      rw [if_pos rfl]
      by_cases hk : k = 1
      · by_cases t1 : 1 ≤ ty
        · by_cases t2 : ty ≤ 65
          · have e : (decide (k = 1) && (decide (1 ≤ ty) && decide (ty ≤ 65))) = true := by simp [hk, t1, t2]
            rw [e]
            clear e
            have hkz : (k == 1) = true := by simpa using hk
            have F := ((Fr.start W).push (g := W.heap.size) (by simp) [.int .i64 24, .int .i64 rg, .int .i64 ty, .int .i64 n, .int .i64 fl, .slice ap al ac, .slice tp tl tc] 25)
            have G := Lib.hid F
            clear F
            go_enter Try.func25, Try.ntmps25
            go_wp2_with fail
            go_quiet ((go_at_call 47; exact Calls.quiet_of_same ((cF _).mono fun _ _ ⟨x, y⟩ => ⟨x, y.symm⟩)))
            replace G := Lib.hid (G.out.drewN nq)
            go_wp2_with (fail)
            go_ret
            exact ⟨rfl, G.out.1⟩
          · have e : (decide (k = 1) && (decide (1 ≤ ty) && decide (ty ≤ 65))) = false := by simp [hk, t1, t2]
            rw [e]
            clear e
            have hkz : (k == 1) = true := by simpa using hk
            have t2z : decide (ty ≤ 65) = false := decide_eq_false t2
            have F := ((Fr.start W).push (g := W.heap.size) (by simp) [.int .i64 24, .int .i64 rg, .int .i64 ty, .int .i64 n, .int .i64 fl, .slice ap al ac, .slice tp tl tc] 25)
            have G := Lib.hid F
            clear F
            go_enter Try.func25, Try.ntmps25
            go_wp2_with fail
            go_quiet ((go_at_call 47; exact Calls.quiet_of_same ((cF _).mono fun _ _ ⟨x, y⟩ => ⟨x, y.symm⟩)))
            replace G := Lib.hid (G.out.drewN nq)
            go_wp2_with (fail)
            go_ret
            exact ⟨rfl, G.out.1⟩
        · by_cases t2 : ty ≤ 65
          · have e : (decide (k = 1) && (decide (1 ≤ ty) && decide (ty ≤ 65))) = false := by simp [hk, t1, t2]
            rw [e]
            clear e
            have hkz : (k == 1) = true := by simpa using hk
            have t1z : decide (1 ≤ ty) = false := decide_eq_false t1
            have F := ((Fr.start W).push (g := W.heap.size) (by simp) [.int .i64 24, .int .i64 rg, .int .i64 ty, .int .i64 n, .int .i64 fl, .slice ap al ac, .slice tp tl tc] 25)
            have G := Lib.hid F
            clear F
            go_enter Try.func25, Try.ntmps25
            go_wp2_with fail
            go_quiet ((go_at_call 47; exact Calls.quiet_of_same ((cF _).mono fun _ _ ⟨x, y⟩ => ⟨x, y.symm⟩)))
            replace G := Lib.hid (G.out.drewN nq)
            go_wp2_with (fail)
            go_ret
            exact ⟨rfl, G.out.1⟩
          · exfalso; omega
      · by_cases t1 : 1 ≤ ty
        · by_cases t2 : ty ≤ 65
          · have e : (decide (k = 1) && (decide (1 ≤ ty) && decide (ty ≤ 65))) = false := by simp [hk, t1, t2]
            rw [e]
            clear e
            have hkz : (k == 1) = false := by simpa using hk
            have F := ((Fr.start W).push (g := W.heap.size) (by simp) [.int .i64 24, .int .i64 rg, .int .i64 ty, .int .i64 n, .int .i64 fl, .slice ap al ac, .slice tp tl tc] 25)
            have G := Lib.hid F
            clear F
            go_enter Try.func25, Try.ntmps25
            go_wp2_with fail
            go_quiet ((go_at_call 47; exact Calls.quiet_of_same ((cF _).mono fun _ _ ⟨x, y⟩ => ⟨x, y.symm⟩)))
            replace G := Lib.hid (G.out.drewN nq)
            go_wp2_with (fail)
            go_ret
            exact ⟨rfl, G.out.1⟩
          · have e : (decide (k = 1) && (decide (1 ≤ ty) && decide (ty ≤ 65))) = false := by simp [hk, t1, t2]
            rw [e]
            clear e
            have hkz : (k == 1) = false := by simpa using hk
            have t2z : decide (ty ≤ 65) = false := decide_eq_false t2
            have F := ((Fr.start W).push (g := W.heap.size) (by simp) [.int .i64 24, .int .i64 rg, .int .i64 ty, .int .i64 n, .int .i64 fl, .slice ap al ac, .slice tp tl tc] 25)
            have G := Lib.hid F
            clear F
            go_enter Try.func25, Try.ntmps25
            go_wp2_with fail
            go_quiet ((go_at_call 47; exact Calls.quiet_of_same ((cF _).mono fun _ _ ⟨x, y⟩ => ⟨x, y.symm⟩)))
            replace G := Lib.hid (G.out.drewN nq)
            go_wp2_with (fail)
            go_ret
            exact ⟨rfl, G.out.1⟩
        · by_cases t2 : ty ≤ 65
          · have e : (decide (k = 1) && (decide (1 ≤ ty) && decide (ty ≤ 65))) = false := by simp [hk, t1, t2]
            rw [e]
            clear e
            have hkz : (k == 1) = false := by simpa using hk
            have t1z : decide (1 ≤ ty) = false := decide_eq_false t1
            have F := ((Fr.start W).push (g := W.heap.size) (by simp) [.int .i64 24, .int .i64 rg, .int .i64 ty, .int .i64 n, .int .i64 fl, .slice ap al ac, .slice tp tl tc] 25)
            have G := Lib.hid F
            clear F
            go_enter Try.func25, Try.ntmps25
            go_wp2_with fail
            go_quiet ((go_at_call 47; exact Calls.quiet_of_same ((cF _).mono fun _ _ ⟨x, y⟩ => ⟨x, y.symm⟩)))
            replace G := Lib.hid (G.out.drewN nq)
            go_wp2_with (fail)
            go_ret
            exact ⟨rfl, G.out.1⟩
          · exfalso; omega
    rw [if_neg o24]
    by_cases o29 : op = 29
    · subst o29
      rw [if_pos rfl]
      by_cases hk : k = 2
      · by_cases t1 : ty = 65
        · have e : (decide (k = 2) && decide (ty = 65)) = true := by simp [hk, t1]
          rw [e]
          clear e
          have hkz : (k == 2) = true := by simpa using hk
          have t1z : (ty == 65) = true := by simpa using t1
          subst t1
          have F := ((Fr.start W).push (g := W.heap.size) (by simp) [.int .i64 29, .int .i64 rg, .int .i64 65, .int .i64 n, .int .i64 fl, .slice ap al ac, .slice tp tl tc] 25)
          have G := Lib.hid F
          clear F
          go_enter Try.func25, Try.ntmps25
          go_wp2_with fail
          go_quiet ((go_at_call 47; exact Calls.quiet_of_same ((cF _).mono fun _ _ ⟨x, y⟩ => ⟨x, y.symm⟩)))
          replace G := Lib.hid (G.out.drewN nq)
          go_wp2_with (fail)
          go_ret
          exact ⟨rfl, G.out.1⟩
        · have e : (decide (k = 2) && decide (ty = 65)) = false := by simp [hk, t1]
          rw [e]
          clear e
          have hkz : (k == 2) = true := by simpa using hk
          have t1z : (ty == 65) = false := by simpa using t1
          have F := ((Fr.start W).push (g := W.heap.size) (by simp) [.int .i64 29, .int .i64 rg, .int .i64 ty, .int .i64 n, .int .i64 fl, .slice ap al ac, .slice tp tl tc] 25)
          have G := Lib.hid F
          clear F
          go_enter Try.func25, Try.ntmps25
          go_wp2_with fail
          go_quiet ((go_at_call 47; exact Calls.quiet_of_same ((cF _).mono fun _ _ ⟨x, y⟩ => ⟨x, y.symm⟩)))
          replace G := Lib.hid (G.out.drewN nq)
          go_wp2_with (fail)
          go_ret
          exact ⟨rfl, G.out.1⟩
      · by_cases t1 : ty = 65
        · have e : (decide (k = 2) && decide (ty = 65)) = false := by simp [hk, t1]
          rw [e]
          clear e
          have hkz : (k == 2) = false := by simpa using hk
          have t1z : (ty == 65) = true := by simpa using t1
          subst t1
          have F := ((Fr.start W).push (g := W.heap.size) (by simp) [.int .i64 29, .int .i64 rg, .int .i64 65, .int .i64 n, .int .i64 fl, .slice ap al ac, .slice tp tl tc] 25)
          have G := Lib.hid F
          clear F
          go_enter Try.func25, Try.ntmps25
          go_wp2_with fail
          go_quiet ((go_at_call 47; exact Calls.quiet_of_same ((cF _).mono fun _ _ ⟨x, y⟩ => ⟨x, y.symm⟩)))
          replace G := Lib.hid (G.out.drewN nq)
          go_wp2_with (fail)
          go_ret
          exact ⟨rfl, G.out.1⟩
        · have e : (decide (k = 2) && decide (ty = 65)) = false := by simp [hk, t1]
          rw [e]
          clear e
          have hkz : (k == 2) = false := by simpa using hk
          have t1z : (ty == 65) = false := by simpa using t1
          have F := ((Fr.start W).push (g := W.heap.size) (by simp) [.int .i64 29, .int .i64 rg, .int .i64 ty, .int .i64 n, .int .i64 fl, .slice ap al ac, .slice tp tl tc] 25)
          have G := Lib.hid F
          clear F
          go_enter Try.func25, Try.ntmps25
          go_wp2_with fail
          go_quiet ((go_at_call 47; exact Calls.quiet_of_same ((cF _).mono fun _ _ ⟨x, y⟩ => ⟨x, y.symm⟩)))
          replace G := Lib.hid (G.out.drewN nq)
          go_wp2_with (fail)
          go_ret
          exact ⟨rfl, G.out.1⟩
    rw [if_neg o29]
    have p14 : (op == 14) = false := by simpa using o14
    have p15 : (op == 15) = false := by simpa using o15
    have p20 : (op == 20) = false := by simpa using o20
    have p21 : (op == 21) = false := by simpa using o21
    have p22 : (op == 22) = false := by simpa using o22
    have p23 : (op == 23) = false := by simpa using o23
    have p24 : (op == 24) = false := by simpa using o24
    have p29 : (op == 29) = false := by simpa using o29
    clear o14 o15 o20 o21 o22 o23 o24 o29
    by_cases r1 : 1 ≤ op
    · by_cases r2 : op ≤ 19
      · by_cases hk : k = 2
        · by_cases t1 : 1 ≤ ty
          · by_cases t2 : ty ≤ 64
            · have e : ((decide (1 ≤ op) && decide (op ≤ 19)) && (decide (k = 2) && (decide (1 ≤ ty) && decide (ty ≤ 64)))) = true := by simp [r1, r2, hk, t1, t2]
              rw [e]
              clear e
              have hkz : (k == 2) = true := by simpa using hk
              have F := ((Fr.start W).push (g := W.heap.size) (by simp) [.int .i64 op, .int .i64 rg, .int .i64 ty, .int .i64 n, .int .i64 fl, .slice ap al ac, .slice tp tl tc] 25)
              have G := Lib.hid F
              clear F
              go_enter Try.func25, Try.ntmps25
              go_wp2_with fail
              go_quiet ((go_at_call 47; exact Calls.quiet_of_same ((cF _).mono fun _ _ ⟨x, y⟩ => ⟨x, y.symm⟩)))
              replace G := Lib.hid (G.out.drewN nq)
              go_wp2_with (fail)
              go_ret
              exact ⟨rfl, G.out.1⟩
            · have e : ((decide (1 ≤ op) && decide (op ≤ 19)) && (decide (k = 2) && (decide (1 ≤ ty) && decide (ty ≤ 64)))) = false := by simp [r1, r2, hk, t1, t2]
              rw [e]
              clear e
              have hkz : (k == 2) = true := by simpa using hk
              have t2z : decide (ty ≤ 64) = false := decide_eq_false t2
              have F := ((Fr.start W).push (g := W.heap.size) (by simp) [.int .i64 op, .int .i64 rg, .int .i64 ty, .int .i64 n, .int .i64 fl, .slice ap al ac, .slice tp tl tc] 25)
              have G := Lib.hid F
              clear F
              go_enter Try.func25, Try.ntmps25
              go_wp2_with fail
              go_quiet ((go_at_call 47; exact Calls.quiet_of_same ((cF _).mono fun _ _ ⟨x, y⟩ => ⟨x, y.symm⟩)))
              replace G := Lib.hid (G.out.drewN nq)
              go_wp2_with (fail)
              go_ret
              exact ⟨rfl, G.out.1⟩
          · by_cases t2 : ty ≤ 64
            · have e : ((decide (1 ≤ op) && decide (op ≤ 19)) && (decide (k = 2) && (decide (1 ≤ ty) && decide (ty ≤ 64)))) = false := by simp [r1, r2, hk, t1, t2]
              rw [e]
              clear e
              have hkz : (k == 2) = true := by simpa using hk
              have t1z : decide (1 ≤ ty) = false := decide_eq_false t1
              have F := ((Fr.start W).push (g := W.heap.size) (by simp) [.int .i64 op, .int .i64 rg, .int .i64 ty, .int .i64 n, .int .i64 fl, .slice ap al ac, .slice tp tl tc] 25)
              have G := Lib.hid F
              clear F
              go_enter Try.func25, Try.ntmps25
              go_wp2_with fail
              go_quiet ((go_at_call 47; exact Calls.quiet_of_same ((cF _).mono fun _ _ ⟨x, y⟩ => ⟨x, y.symm⟩)))
              replace G := Lib.hid (G.out.drewN nq)
              go_wp2_with (fail)
              go_ret
              exact ⟨rfl, G.out.1⟩
            · exfalso; omega
        · by_cases t1 : 1 ≤ ty
          · by_cases t2 : ty ≤ 64
            · have e : ((decide (1 ≤ op) && decide (op ≤ 19)) && (decide (k = 2) && (decide (1 ≤ ty) && decide (ty ≤ 64)))) = false := by simp [r1, r2, hk, t1, t2]
              rw [e]
              clear e
              have hkz : (k == 2) = false := by simpa using hk
              have F := ((Fr.start W).push (g := W.heap.size) (by simp) [.int .i64 op, .int .i64 rg, .int .i64 ty, .int .i64 n, .int .i64 fl, .slice ap al ac, .slice tp tl tc] 25)
              have G := Lib.hid F
              clear F
              go_enter Try.func25, Try.ntmps25
              go_wp2_with fail
              go_quiet ((go_at_call 47; exact Calls.quiet_of_same ((cF _).mono fun _ _ ⟨x, y⟩ => ⟨x, y.symm⟩)))
              replace G := Lib.hid (G.out.drewN nq)
              go_wp2_with (fail)
              go_ret
              exact ⟨rfl, G.out.1⟩
            · have e : ((decide (1 ≤ op) && decide (op ≤ 19)) && (decide (k = 2) && (decide (1 ≤ ty) && decide (ty ≤ 64)))) = false := by simp [r1, r2, hk, t1, t2]
              rw [e]
              clear e
              have hkz : (k == 2) = false := by simpa using hk
              have t2z : decide (ty ≤ 64) = false := decide_eq_false t2
              have F := ((Fr.start W).push (g := W.heap.size) (by simp) [.int .i64 op, .int .i64 rg, .int .i64 ty, .int .i64 n, .int .i64 fl, .slice ap al ac, .slice tp tl tc] 25)
              have G := Lib.hid F
              clear F
              go_enter Try.func25, Try.ntmps25
              go_wp2_with fail
              go_quiet ((go_at_call 47; exact Calls.quiet_of_same ((cF _).mono fun _ _ ⟨x, y⟩ => ⟨x, y.symm⟩)))
              replace G := Lib.hid (G.out.drewN nq)
              go_wp2_with (fail)
              go_ret
              exact ⟨rfl, G.out.1⟩
          · by_cases t2 : ty ≤ 64
            · have e : ((decide (1 ≤ op) && decide (op ≤ 19)) && (decide (k = 2) && (decide (1 ≤ ty) && decide (ty ≤ 64)))) = false := by simp [r1, r2, hk, t1, t2]
              rw [e]
              clear e
              have hkz : (k == 2) = false := by simpa using hk
              have t1z : decide (1 ≤ ty) = false := decide_eq_false t1
              have F := ((Fr.start W).push (g := W.heap.size) (by simp) [.int .i64 op, .int .i64 rg, .int .i64 ty, .int .i64 n, .int .i64 fl, .slice ap al ac, .slice tp tl tc] 25)
              have G := Lib.hid F
              clear F
              go_enter Try.func25, Try.ntmps25
              go_wp2_with fail
              go_quiet ((go_at_call 47; exact Calls.quiet_of_same ((cF _).mono fun _ _ ⟨x, y⟩ => ⟨x, y.symm⟩)))
              replace G := Lib.hid (G.out.drewN nq)
              go_wp2_with (fail)
              go_ret
              exact ⟨rfl, G.out.1⟩
            · exfalso; omega
      · by_cases hk : k = 2
        · by_cases t1 : 1 ≤ ty
          · by_cases t2 : ty ≤ 64
            · have e : ((decide (1 ≤ op) && decide (op ≤ 19)) && (decide (k = 2) && (decide (1 ≤ ty) && decide (ty ≤ 64)))) = false := by simp [r1, r2, hk, t1, t2]
              rw [e]
              clear e
              have r2z : decide (op ≤ 19) = false := decide_eq_false r2
              have hkz : (k == 2) = true := by simpa using hk
              have F := ((Fr.start W).push (g := W.heap.size) (by simp) [.int .i64 op, .int .i64 rg, .int .i64 ty, .int .i64 n, .int .i64 fl, .slice ap al ac, .slice tp tl tc] 25)
              have G := Lib.hid F
              clear F
              go_enter Try.func25, Try.ntmps25
              go_wp2_with fail
              go_quiet ((go_at_call 47; exact Calls.quiet_of_same ((cF _).mono fun _ _ ⟨x, y⟩ => ⟨x, y.symm⟩)))
              replace G := Lib.hid (G.out.drewN nq)
              go_wp2_with (fail)
              go_ret
              exact ⟨rfl, G.out.1⟩
            · have e : ((decide (1 ≤ op) && decide (op ≤ 19)) && (decide (k = 2) && (decide (1 ≤ ty) && decide (ty ≤ 64)))) = false := by simp [r1, r2, hk, t1, t2]
              rw [e]
              clear e
              have r2z : decide (op ≤ 19) = false := decide_eq_false r2
              have hkz : (k == 2) = true := by simpa using hk
              have t2z : decide (ty ≤ 64) = false := decide_eq_false t2
              have F := ((Fr.start W).push (g := W.heap.size) (by simp) [.int .i64 op, .int .i64 rg, .int .i64 ty, .int .i64 n, .int .i64 fl, .slice ap al ac, .slice tp tl tc] 25)
              have G := Lib.hid F
              clear F
              go_enter Try.func25, Try.ntmps25
              go_wp2_with fail
              go_quiet ((go_at_call 47; exact Calls.quiet_of_same ((cF _).mono fun _ _ ⟨x, y⟩ => ⟨x, y.symm⟩)))
              replace G := Lib.hid (G.out.drewN nq)
              go_wp2_with (fail)
              go_ret
              exact ⟨rfl, G.out.1⟩
          · by_cases t2 : ty ≤ 64
            · have e : ((decide (1 ≤ op) && decide (op ≤ 19)) && (decide (k = 2) && (decide (1 ≤ ty) && decide (ty ≤ 64)))) = false := by simp [r1, r2, hk, t1, t2]
              rw [e]
              clear e
              have r2z : decide (op ≤ 19) = false := decide_eq_false r2
              have hkz : (k == 2) = true := by simpa using hk
              have t1z : decide (1 ≤ ty) = false := decide_eq_false t1
              have F := ((Fr.start W).push (g := W.heap.size) (by simp) [.int .i64 op, .int .i64 rg, .int .i64 ty, .int .i64 n, .int .i64 fl, .slice ap al ac, .slice tp tl tc] 25)
              have G := Lib.hid F
              clear F
              go_enter Try.func25, Try.ntmps25
              go_wp2_with fail
              go_quiet ((go_at_call 47; exact Calls.quiet_of_same ((cF _).mono fun _ _ ⟨x, y⟩ => ⟨x, y.symm⟩)))
              replace G := Lib.hid (G.out.drewN nq)
              go_wp2_with (fail)
              go_ret
              exact ⟨rfl, G.out.1⟩
            · exfalso; omega
        · by_cases t1 : 1 ≤ ty
          · by_cases t2 : ty ≤ 64
            · have e : ((decide (1 ≤ op) && decide (op ≤ 19)) && (decide (k = 2) && (decide (1 ≤ ty) && decide (ty ≤ 64)))) = false := by simp [r1, r2, hk, t1, t2]
              rw [e]
              clear e
              have r2z : decide (op ≤ 19) = false := decide_eq_false r2
              have hkz : (k == 2) = false := by simpa using hk
              have F := ((Fr.start W).push (g := W.heap.size) (by simp) [.int .i64 op, .int .i64 rg, .int .i64 ty, .int .i64 n, .int .i64 fl, .slice ap al ac, .slice tp tl tc] 25)
              have G := Lib.hid F
              clear F
              go_enter Try.func25, Try.ntmps25
              go_wp2_with fail
              go_quiet ((go_at_call 47; exact Calls.quiet_of_same ((cF _).mono fun _ _ ⟨x, y⟩ => ⟨x, y.symm⟩)))
              replace G := Lib.hid (G.out.drewN nq)
              go_wp2_with (fail)
              go_ret
              exact ⟨rfl, G.out.1⟩
            · have e : ((decide (1 ≤ op) && decide (op ≤ 19)) && (decide (k = 2) && (decide (1 ≤ ty) && decide (ty ≤ 64)))) = false := by simp [r1, r2, hk, t1, t2]
              rw [e]
              clear e
              have r2z : decide (op ≤ 19) = false := decide_eq_false r2
              have hkz : (k == 2) = false := by simpa using hk
              have t2z : decide (ty ≤ 64) = false := decide_eq_false t2
              have F := ((Fr.start W).push (g := W.heap.size) (by simp) [.int .i64 op, .int .i64 rg, .int .i64 ty, .int .i64 n, .int .i64 fl, .slice ap al ac, .slice tp tl tc] 25)
              have G := Lib.hid F
              clear F
              go_enter Try.func25, Try.ntmps25
              go_wp2_with fail
              go_quiet ((go_at_call 47; exact Calls.quiet_of_same ((cF _).mono fun _ _ ⟨x, y⟩ => ⟨x, y.symm⟩)))
              replace G := Lib.hid (G.out.drewN nq)
              go_wp2_with (fail)
              go_ret
              exact ⟨rfl, G.out.1⟩
          · by_cases t2 : ty ≤ 64
            · have e : ((decide (1 ≤ op) && decide (op ≤ 19)) && (decide (k = 2) && (decide (1 ≤ ty) && decide (ty ≤ 64)))) = false := by simp [r1, r2, hk, t1, t2]
              rw [e]
              clear e
              have r2z : decide (op ≤ 19) = false := decide_eq_false r2
              have hkz : (k == 2) = false := by simpa using hk
              have t1z : decide (1 ≤ ty) = false := decide_eq_false t1
              have F := ((Fr.start W).push (g := W.heap.size) (by simp) [.int .i64 op, .int .i64 rg, .int .i64 ty, .int .i64 n, .int .i64 fl, .slice ap al ac, .slice tp tl tc] 25)
              have G := Lib.hid F
              clear F
              go_enter Try.func25, Try.ntmps25
              go_wp2_with fail
              go_quiet ((go_at_call 47; exact Calls.quiet_of_same ((cF _).mono fun _ _ ⟨x, y⟩ => ⟨x, y.symm⟩)))
              replace G := Lib.hid (G.out.drewN nq)
              go_wp2_with (fail)
              go_ret
              exact ⟨rfl, G.out.1⟩
            · exfalso; omega
    · by_cases r2 : op ≤ 19
      · by_cases hk : k = 2
        · by_cases t1 : 1 ≤ ty
          · by_cases t2 : ty ≤ 64
            · have e : ((decide (1 ≤ op) && decide (op ≤ 19)) && (decide (k = 2) && (decide (1 ≤ ty) && decide (ty ≤ 64)))) = false := by simp [r1, r2, hk, t1, t2]
              rw [e]
              clear e
              have r1z : decide (1 ≤ op) = false := decide_eq_false r1
              have hkz : (k == 2) = true := by simpa using hk
              have F := ((Fr.start W).push (g := W.heap.size) (by simp) [.int .i64 op, .int .i64 rg, .int .i64 ty, .int .i64 n, .int .i64 fl, .slice ap al ac, .slice tp tl tc] 25)
              have G := Lib.hid F
              clear F
              go_enter Try.func25, Try.ntmps25
              go_wp2_with fail
              go_quiet ((go_at_call 47; exact Calls.quiet_of_same ((cF _).mono fun _ _ ⟨x, y⟩ => ⟨x, y.symm⟩)))
              replace G := Lib.hid (G.out.drewN nq)
              go_wp2_with (fail)
              go_ret
              exact ⟨rfl, G.out.1⟩
            · have e : ((decide (1 ≤ op) && decide (op ≤ 19)) && (decide (k = 2) && (decide (1 ≤ ty) && decide (ty ≤ 64)))) = false := by simp [r1, r2, hk, t1, t2]
              rw [e]
              clear e
              have r1z : decide (1 ≤ op) = false := decide_eq_false r1
              have hkz : (k == 2) = true := by simpa using hk
              have t2z : decide (ty ≤ 64) = false := decide_eq_false t2
              have F := ((Fr.start W).push (g := W.heap.size) (by simp) [.int .i64 op, .int .i64 rg, .int .i64 ty, .int .i64 n, .int .i64 fl, .slice ap al ac, .slice tp tl tc] 25)
              have G := Lib.hid F
              clear F
              go_enter Try.func25, Try.ntmps25
              go_wp2_with fail
              go_quiet ((go_at_call 47; exact Calls.quiet_of_same ((cF _).mono fun _ _ ⟨x, y⟩ => ⟨x, y.symm⟩)))
              replace G := Lib.hid (G.out.drewN nq)
              go_wp2_with (fail)
              go_ret
              exact ⟨rfl, G.out.1⟩
          · by_cases t2 : ty ≤ 64
            · have e : ((decide (1 ≤ op) && decide (op ≤ 19)) && (decide (k = 2) && (decide (1 ≤ ty) && decide (ty ≤ 64)))) = false := by simp [r1, r2, hk, t1, t2]
              rw [e]
              clear e
              have r1z : decide (1 ≤ op) = false := decide_eq_false r1
              have hkz : (k == 2) = true := by simpa using hk
              have t1z : decide (1 ≤ ty) = false := decide_eq_false t1
              have F := ((Fr.start W).push (g := W.heap.size) (by simp) [.int .i64 op, .int .i64 rg, .int .i64 ty, .int .i64 n, .int .i64 fl, .slice ap al ac, .slice tp tl tc] 25)
              have G := Lib.hid F
              clear F
              go_enter Try.func25, Try.ntmps25
              go_wp2_with fail
              go_quiet ((go_at_call 47; exact Calls.quiet_of_same ((cF _).mono fun _ _ ⟨x, y⟩ => ⟨x, y.symm⟩)))
              replace G := Lib.hid (G.out.drewN nq)
              go_wp2_with (fail)
              go_ret
              exact ⟨rfl, G.out.1⟩
            · exfalso; omega
        · by_cases t1 : 1 ≤ ty
          · by_cases t2 : ty ≤ 64
            · have e : ((decide (1 ≤ op) && decide (op ≤ 19)) && (decide (k = 2) && (decide (1 ≤ ty) && decide (ty ≤ 64)))) = false := by simp [r1, r2, hk, t1, t2]
              rw [e]
              clear e
              have r1z : decide (1 ≤ op) = false := decide_eq_false r1
              have hkz : (k == 2) = false := by simpa using hk
              have F := ((Fr.start W).push (g := W.heap.size) (by simp) [.int .i64 op, .int .i64 rg, .int .i64 ty, .int .i64 n, .int .i64 fl, .slice ap al ac, .slice tp tl tc] 25)
              have G := Lib.hid F
              clear F
              go_enter Try.func25, Try.ntmps25
              go_wp2_with fail
              go_quiet ((go_at_call 47; exact Calls.quiet_of_same ((cF _).mono fun _ _ ⟨x, y⟩ => ⟨x, y.symm⟩)))
              replace G := Lib.hid (G.out.drewN nq)
              go_wp2_with (fail)
              go_ret
              exact ⟨rfl, G.out.1⟩
            · have e : ((decide (1 ≤ op) && decide (op ≤ 19)) && (decide (k = 2) && (decide (1 ≤ ty) && decide (ty ≤ 64)))) = false := by simp [r1, r2, hk, t1, t2]
              rw [e]
              clear e
              have r1z : decide (1 ≤ op) = false := decide_eq_false r1
              have hkz : (k == 2) = false := by simpa using hk
              have t2z : decide (ty ≤ 64) = false := decide_eq_false t2
              have F := ((Fr.start W).push (g := W.heap.size) (by simp) [.int .i64 op, .int .i64 rg, .int .i64 ty, .int .i64 n, .int .i64 fl, .slice ap al ac, .slice tp tl tc] 25)
              have G := Lib.hid F
              clear F
              go_enter Try.func25, Try.ntmps25
              go_wp2_with fail
              go_quiet ((go_at_call 47; exact Calls.quiet_of_same ((cF _).mono fun _ _ ⟨x, y⟩ => ⟨x, y.symm⟩)))
              replace G := Lib.hid (G.out.drewN nq)
              go_wp2_with (fail)
              go_ret
              exact ⟨rfl, G.out.1⟩
          · by_cases t2 : ty ≤ 64
            · have e : ((decide (1 ≤ op) && decide (op ≤ 19)) && (decide (k = 2) && (decide (1 ≤ ty) && decide (ty ≤ 64)))) = false := by simp [r1, r2, hk, t1, t2]
              rw [e]
              clear e
              have r1z : decide (1 ≤ op) = false := decide_eq_false r1
              have hkz : (k == 2) = false := by simpa using hk
              have t1z : decide (1 ≤ ty) = false := decide_eq_false t1
              have F := ((Fr.start W).push (g := W.heap.size) (by simp) [.int .i64 op, .int .i64 rg, .int .i64 ty, .int .i64 n, .int .i64 fl, .slice ap al ac, .slice tp tl tc] 25)
              have G := Lib.hid F
              clear F
              go_enter Try.func25, Try.ntmps25
              go_wp2_with fail
              go_quiet ((go_at_call 47; exact Calls.quiet_of_same ((cF _).mono fun _ _ ⟨x, y⟩ => ⟨x, y.symm⟩)))
              replace G := Lib.hid (G.out.drewN nq)
              go_wp2_with (fail)
              go_ret
              exact ⟨rfl, G.out.1⟩
            · exfalso; omega
      · by_cases hk : k = 2
        · by_cases t1 : 1 ≤ ty
          · by_cases t2 : ty ≤ 64
            · exfalso; omega
            · exfalso; omega
          · by_cases t2 : ty ≤ 64
            · exfalso; omega
            · exfalso; omega
        · by_cases t1 : 1 ≤ ty
          · by_cases t2 : ty ≤ 64
            · exfalso; omega
            · exfalso; omega
          · by_cases t2 : ty ≤ 64
            · exfalso; omega
            · exfalso; omega
  · rw [if_neg hf]
    have hfz : (bits .andNot .i64 fl g != 0) = true := by simpa using hf
    have F := ((Fr.start W).push (g := W.heap.size) (by simp) [.int .i64 op, .int .i64 rg, .int .i64 ty, .int .i64 n, .int .i64 fl, .slice ap al ac, .slice tp tl tc] 25)
    have G := Lib.hid F
    clear F
    go_enter Try.func25, Try.ntmps25
    go_wp2_with fail
    go_quiet ((go_at_call 47; exact Calls.quiet_of_same ((cF _).mono fun _ _ ⟨x, y⟩ => ⟨x, y.symm⟩)))
    replace G := Lib.hid (G.out.drewN nq)
    go_wp2_with (fail)
    go_ret
    exact ⟨rfl, G.out.1⟩
end Go.Proofs.Ytpjfkmaceaikbaa
