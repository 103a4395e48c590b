/- Package fold: literal, zero, address, operand. -/
import Derived.Test.YtpjfkmaceaikbaaFlPM
import Derived.Test.YtpjfkmaceaikbaaMg7
namespace Go.Proofs.Ytpjfkmaceaikbaa
open Go.RowKit Go.Maps
set_option linter.unusedVariables false
set_option linter.unusedSimpArgs false
set_option maxRecDepth 100000
set_option maxHeartbeats 1000000

theorem bVb (w : World) (k b : Int) : (Instr.build 35 #[(0, .int .i64 k), (2, .int .i64 b)]).run Try.prog w = .ok (.agg #[.int .i64 k, .int .u64 0, .int .i64 b, .int .i64 0]) w := run_build _ _ _ _ (by kernel_rfl)
theorem bO0 (w : World) : (Instr.build 29 #[]).run Try.prog w = .ok (.agg #[.int .i64 0, .int .i64 0, .int .u64 0]) w := run_build _ _ _ _ (by kernel_rfl)
theorem bO1 (w : World) (k : Int) : (Instr.build 29 #[(0, .int .i64 k)]).run Try.prog w = .ok (.agg #[.int .i64 k, .int .i64 0, .int .u64 0]) w := run_build _ _ _ _ (by kernel_rfl)
theorem bO2 (w : World) (k b : Int) : (Instr.build 29 #[(0, .int .i64 k), (2, .int .u64 b)]).run Try.prog w = .ok (.agg #[.int .i64 k, .int .i64 0, .int .u64 b]) w := run_build _ _ _ _ (by kernel_rfl)
theorem bO3 (w : World) (k n : Int) : (Instr.build 29 #[(0, .int .i64 k), (1, .int .i64 n)]).run Try.prog w = .ok (.agg #[.int .i64 k, .int .i64 n, .int .u64 0]) w := run_build _ _ _ _ (by kernel_rfl)
def Arg.val (a : Arg) : Value := .agg #[.int .i64 a.kind, .int .i64 a.n, .int .u64 a.bits]
theorem Fr.c3 {W w : World} {bs : List (Nat × List Value)} (F : Fr W bs w) (i : Nat) {g : Nat} {v0 v1 v2 : Value} (h : bs[i]? = some (g, [v0, v1, v2])) :
    w.cell? ⟨g, 0, none⟩ = some v0 ∧ w.cell? ⟨g, 1, none⟩ = some v1 ∧ w.cell? ⟨g, 2, none⟩ = some v2 ∧ ∀ i, w.frozen? ⟨g, i, none⟩ = false :=
  ⟨(F.at i h).2.get 0 _ rfl, (F.at i h).2.get 1 _ rfl, (F.at i h).2.get 2 _ rfl, (F.at i h).2.2.1⟩
theorem Fr.set3 {W w : World} {bs : List (Nat × List Value)} (F : Fr W bs w) (i : Nat) {g : Nat} {cs : List Value} (h : bs[i]? = some (g, cs)) (u0 u1 u2 : Value) :
    Below W.heap.size W (((w.setCell ⟨g, 0, none⟩ u0).setCell ⟨g, 1, none⟩ u1).setCell ⟨g, 2, none⟩ u2) := by
  have hg := (F.at i h).1
  have P : Past W.heap.size W w := ⟨Nat.le_refl _, F.1⟩
  exact (((P.set (a := ⟨g, 0, none⟩) hg u0).set (a := ⟨g, 1, none⟩) hg u1).set (a := ⟨g, 2, none⟩) hg u2).2
theorem literal_2 (n b : Int) (W : World) : Calls Try.prog 22 #[.agg #[.int .i64 2, .int .i64 n, .int .u64 b]] W fun e w' => e = .returned (.tuple #[.agg #[.int .i64 1, .int .u64 b, .int .i64 0, .int .i64 0], .bool true]) ∧ Below W.heap.size W w' := by
  have h_bV0 := bV0
  have h_bV2 := bV2
  have h_bVb := bVb
  go_enter Try.func22, Try.ntmps22
  go_wp2_with fail
  exact bodyPost_ret (v := .tuple #[.agg #[.int .i64 1, .int .u64 b, .int .i64 0, .int .i64 0], .bool true]) (by simp [results, Try.results22, go_sem]) rfl ⟨rfl, below2 W _ _⟩
theorem literal_3 (n b : Int) (W : World) : Calls Try.prog 22 #[.agg #[.int .i64 3, .int .i64 n, .int .u64 b]] W fun e w' => e = .returned (.tuple #[.agg #[.int .i64 0, .int .u64 0, .int .i64 0, .int .i64 0], .bool true]) ∧ Below W.heap.size W w' := by
  have h_bV0 := bV0
  have h_bV2 := bV2
  have h_bVb := bVb
  go_enter Try.func22, Try.ntmps22
  go_wp2_with fail
  exact bodyPost_ret (v := .tuple #[.agg #[.int .i64 0, .int .u64 0, .int .i64 0, .int .i64 0], .bool true]) (by simp [results, Try.results22, go_sem]) rfl ⟨rfl, below2 W _ _⟩
theorem literal_4 (n b : Int) (W : World) : Calls Try.prog 22 #[.agg #[.int .i64 4, .int .i64 n, .int .u64 b]] W fun e w' => e = .returned (.tuple #[.agg #[.int .i64 2, .int .u64 0, .int .i64 (-1), .int .i64 0], .bool true]) ∧ Below W.heap.size W w' := by
  have h_bV0 := bV0
  have h_bV2 := bV2
  have h_bVb := bVb
  go_enter Try.func22, Try.ntmps22
  go_wp2_with fail
  exact bodyPost_ret (v := .tuple #[.agg #[.int .i64 2, .int .u64 0, .int .i64 (-1), .int .i64 0], .bool true]) (by simp [results, Try.results22, go_sem]) rfl ⟨rfl, below2 W _ _⟩
theorem literal_5 (n b : Int) (W : World) : Calls Try.prog 22 #[.agg #[.int .i64 5, .int .i64 n, .int .u64 b]] W fun e w' => e = .returned (.tuple #[.agg #[.int .i64 2, .int .u64 0, .int .i64 n, .int .i64 0], .bool true]) ∧ Below W.heap.size W w' := by
  have h_bV0 := bV0
  have h_bV2 := bV2
  have h_bVb := bVb
  go_enter Try.func22, Try.ntmps22
  go_wp2_with fail
  exact bodyPost_ret (v := .tuple #[.agg #[.int .i64 2, .int .u64 0, .int .i64 n, .int .i64 0], .bool true]) (by simp [results, Try.results22, go_sem]) rfl ⟨rfl, below2 W _ _⟩
theorem literal_no (k n b : Int) (h2 : (k == 2) = false) (h3 : (k == 3) = false) (h4 : (k == 4) = false) (h5 : (k == 5) = false) (W : World) : Calls Try.prog 22 #[.agg #[.int .i64 k, .int .i64 n, .int .u64 b]] W fun e w' => e = .returned (.tuple #[.agg #[.int .i64 0, .int .u64 0, .int .i64 0, .int .i64 0], .bool false]) ∧ Below W.heap.size W w' := by
  have h_bV0 := bV0
  go_enter Try.func22, Try.ntmps22
  go_wp2_with fail
  exact bodyPost_ret (v := .tuple #[.agg #[.int .i64 0, .int .u64 0, .int .i64 0, .int .i64 0], .bool false]) (by simp [results, Try.results22, go_sem]) rfl ⟨rfl, below2 W _ _⟩
theorem literal_any (a : Arg) (W : World) : Calls Try.prog 22 #[a.val] W fun e w' => e = .returned (.tuple #[(if isLit a then lvD a else p0).val, .bool (isLit a)]) ∧ Below W.heap.size W w' := by
  obtain ⟨k, n, b⟩ := a
  by_cases h2 : k = 2
  · subst h2; exact literal_2 n b W
  by_cases h3 : k = 3
  · subst h3; exact literal_3 n b W
  by_cases h4 : k = 4
  · subst h4; exact literal_4 n b W
  by_cases h5 : k = 5
  · subst h5; exact literal_5 n b W
  have e : isLit ⟨k, n, b⟩ = false := by unfold isLit; simp only [decide_eq_false_iff_not]; omega
  rw [e]
  exact literal_no k n b (by simpa using h2) (by simpa using h3) (by simpa using h4) (by simpa using h5) W
theorem zero_p (W : World) : Calls Try.prog 23 #[.int .i64 65] W fun e w' => e = .returned (.agg #[.int .i64 4, .int .i64 0, .int .u64 0]) ∧ Below W.heap.size W w' := by
  have h_bO0 := bO0
  have h_bO1 := bO1
  go_enter Try.func23, Try.ntmps23
  go_wp2_with fail
  exact bodyPost_ret (v := .agg #[.int .i64 4, .int .i64 0, .int .u64 0]) (by simp [results, Try.results23, go_sem]) rfl ⟨rfl, below1 W _⟩
theorem zero_n (t : Int) (h : (t == 65) = false) (W : World) : Calls Try.prog 23 #[.int .i64 t] W fun e w' => e = .returned (.agg #[.int .i64 2, .int .i64 0, .int .u64 0]) ∧ Below W.heap.size W w' := by
  have h_bO0 := bO0
  have h_bO1 := bO1
  go_enter Try.func23, Try.ntmps23
  go_wp2_with fail
  exact bodyPost_ret (v := .agg #[.int .i64 2, .int .i64 0, .int .u64 0]) (by simp [results, Try.results23, go_sem]) rfl ⟨rfl, below1 W _⟩
theorem address_o (k b g q : Int) (h : (q != 0) = true) (W : World) : Calls Try.prog 24 #[.agg #[.int .i64 k, .int .u64 b, .int .i64 g, .int .i64 q]] W fun e w' => e = .returned (.tuple #[.agg #[.int .i64 0, .int .i64 0, .int .u64 0], .bool false]) ∧ Below W.heap.size W w' := by
  have h_bO0 := bO0
  go_enter Try.func24, Try.ntmps24
  go_wp2_with fail
  exact bodyPost_ret (v := .tuple #[.agg #[.int .i64 0, .int .i64 0, .int .u64 0], .bool false]) (by simp [results, Try.results24, go_sem]) rfl ⟨rfl, below2 W _ _⟩
theorem address_b (k b g : Int) (h : g < -1) (W : World) : Calls Try.prog 24 #[.agg #[.int .i64 k, .int .u64 b, .int .i64 g, .int .i64 0]] W fun e w' => e = .returned (.tuple #[.agg #[.int .i64 0, .int .i64 0, .int .u64 0], .bool false]) ∧ Below W.heap.size W w' := by
  have h_bO0 := bO0
  go_enter Try.func24, Try.ntmps24
  go_wp2_with fail
  exact bodyPost_ret (v := .tuple #[.agg #[.int .i64 0, .int .i64 0, .int .u64 0], .bool false]) (by simp [results, Try.results24, go_sem]) rfl ⟨rfl, below2 W _ _⟩
theorem address_n (k b : Int) (W : World) : Calls Try.prog 24 #[.agg #[.int .i64 k, .int .u64 b, .int .i64 (-1), .int .i64 0]] W fun e w' => e = .returned (.tuple #[.agg #[.int .i64 4, .int .i64 0, .int .u64 0], .bool true]) ∧ Below W.heap.size W w' := by
  have h_bO0 := bO0
  have h_bO1 := bO1
  go_enter Try.func24, Try.ntmps24
  go_wp2_with fail
  exact bodyPost_ret (v := .tuple #[.agg #[.int .i64 4, .int .i64 0, .int .u64 0], .bool true]) (by simp [results, Try.results24, go_sem]) rfl ⟨rfl, below2 W _ _⟩
theorem address_g (k b g : Int) (h : ¬ g < -1) (h1 : (g == -1) = false) (W : World) : Calls Try.prog 24 #[.agg #[.int .i64 k, .int .u64 b, .int .i64 g, .int .i64 0]] W fun e w' => e = .returned (.tuple #[.agg #[.int .i64 5, .int .i64 g, .int .u64 0], .bool true]) ∧ Below W.heap.size W w' := by
  have h_bO0 := bO0
  have h_bO1 := bO1
  have h_bO3 := bO3
  go_enter Try.func24, Try.ntmps24
  go_wp2_with fail
  exact bodyPost_ret (v := .tuple #[.agg #[.int .i64 5, .int .i64 g, .int .u64 0], .bool true]) (by simp [results, Try.results24, go_sem]) rfl ⟨rfl, below2 W _ _⟩
def adrO (g q : Int) : Arg × Bool := if q ≠ 0 ∨ g < -1 then (a0, false) else if g = -1 then (⟨4, 0, 0⟩, true) else (⟨5, g, 0⟩, true)
theorem address_any (k b g q : Int) (W : World) : Calls Try.prog 24 #[.agg #[.int .i64 k, .int .u64 b, .int .i64 g, .int .i64 q]] W fun e w' => e = .returned (.tuple #[(adrO g q).1.val, .bool (adrO g q).2]) ∧ Below W.heap.size W w' := by
  unfold adrO
  by_cases h1 : q = 0
  · subst h1
    by_cases h2 : g < -1
    · rw [if_pos (Or.inr h2)]; exact address_b k b g h2 W
    · rw [if_neg (by omega)]
      by_cases h3 : g = -1
      · subst h3; rw [if_pos rfl]; exact address_n k b W
      · rw [if_neg h3]; exact address_g k b g h2 (by simpa using h3) W
  · rw [if_pos (Or.inl h1)]
    exact address_o k b g q (by simpa using h1) W
theorem operand_1 (t b g q : Int) (W : World) : Calls Try.prog 12 #[.int .i64 t, .agg #[.int .i64 1, .int .u64 b, .int .i64 g, .int .i64 q]] W fun e w' => e = .returned (.tuple #[.agg #[.int .i64 2, .int .i64 0, .int .u64 b], .bool true]) ∧ Below W.heap.size W w' := by
  have h_bO0 := bO0
  have h_bO2 := bO2
  go_enter Try.func12, Try.ntmps12
  go_wp2_with fail
  exact bodyPost_ret (v := .tuple #[.agg #[.int .i64 2, .int .i64 0, .int .u64 b], .bool true]) (by simp [results, Try.results12, go_sem]) rfl ⟨rfl, below2 W _ _⟩
theorem operand_0 (t b g q : Int) (W : World) : Calls Try.prog 12 #[.int .i64 t, .agg #[.int .i64 0, .int .u64 b, .int .i64 g, .int .i64 q]] W fun e w' => e = .returned (.tuple #[.agg #[.int .i64 3, .int .i64 0, .int .u64 0], .bool true]) ∧ Below W.heap.size W w' := by
  have h_bO0 := bO0
  have h_bO1 := bO1
  go_enter Try.func12, Try.ntmps12
  go_wp2_with fail
  exact bodyPost_ret (v := .tuple #[.agg #[.int .i64 3, .int .i64 0, .int .u64 0], .bool true]) (by simp [results, Try.results12, go_sem]) rfl ⟨rfl, below2 W _ _⟩
theorem operand_3 (t b g q x y z : Int) (W : World)
    (c : ∀ W, Calls Try.prog 23 #[.int .i64 t] W fun e w' => e = .returned (.agg #[.int .i64 x, .int .i64 y, .int .u64 z]) ∧ Below W.heap.size W w')
    : Calls Try.prog 12 #[.int .i64 t, .agg #[.int .i64 3, .int .u64 b, .int .i64 g, .int .i64 q]] W fun e w' => e = .returned (.tuple #[.agg #[.int .i64 x, .int .i64 y, .int .u64 z], .bool true]) ∧ Below W.heap.size W w' := by
  have h0 := bO0
  have F := ((Fr.start W).push (g := W.heap.size) (by simp) [.int .i64 3, .int .u64 b, .int .i64 g, .int .i64 q] 35).push (g := W.heap.size + 1) (by simp) [.int .i64 0, .int .i64 0, .int .u64 0] 29
  have G := Lib.hid F
  clear F
  go_enter Try.func12, Try.ntmps12
  go_wp2_with ((with_reducible refine (c _).mono ?_); rintro e w1 ⟨rfl, hb⟩; have F := G.out.later hb; (try clear i0 i1 i2 i3 iF r0 r1 r2 rF); obtain ⟨i0, i1, i2, i3, iF⟩ := F.c4 1 rfl; obtain ⟨r0, r1, r2, rF⟩ := F.c3 0 rfl; replace G := Lib.hid F; clear F hb)
  exact bodyPost_ret (v := .tuple #[.agg #[.int .i64 x, .int .i64 y, .int .u64 z], .bool true]) (by simp [results, Try.results12, go_sem, *]) rfl ⟨rfl, G.out.set3 0 rfl _ _ _⟩
theorem operand_2 (t b g q x y z : Int) (u : Bool) (W : World)
    (c : ∀ W, Calls Try.prog 24 #[.agg #[.int .i64 2, .int .u64 b, .int .i64 g, .int .i64 q]] W fun e w' => e = .returned (.tuple #[.agg #[.int .i64 x, .int .i64 y, .int .u64 z], .bool u]) ∧ Below W.heap.size W w')
    : Calls Try.prog 12 #[.int .i64 t, .agg #[.int .i64 2, .int .u64 b, .int .i64 g, .int .i64 q]] W fun e w' => e = .returned (.tuple #[.agg #[.int .i64 x, .int .i64 y, .int .u64 z], .bool u]) ∧ Below W.heap.size W w' := by
  have h0 := bO0
  have F := ((Fr.start W).push (g := W.heap.size) (by simp) [.int .i64 2, .int .u64 b, .int .i64 g, .int .i64 q] 35).push (g := W.heap.size + 1) (by simp) [.int .i64 0, .int .i64 0, .int .u64 0] 29
  have G := Lib.hid F
  clear F
  go_enter Try.func12, Try.ntmps12
  go_wp2_with ((with_reducible refine (c _).mono ?_); rintro e w1 ⟨rfl, hb⟩; have F := G.out.later hb; (try clear i0 i1 i2 i3 iF r0 r1 r2 rF); obtain ⟨i0, i1, i2, i3, iF⟩ := F.c4 1 rfl; obtain ⟨r0, r1, r2, rF⟩ := F.c3 0 rfl; replace G := Lib.hid F; clear F hb)
  exact bodyPost_ret (v := .tuple #[.agg #[.int .i64 x, .int .i64 y, .int .u64 z], .bool u]) (by simp [results, Try.results12, go_sem, *]) rfl ⟨rfl, G.out.set3 0 rfl _ _ _⟩
theorem operand_any (t : Int) (v : EV) (W : World) : Calls Try.prog 12 #[.int .i64 t, v.vl.val] W fun e w' => e = .returned (.tuple #[(opdE t v).1.val, .bool (opdE t v).2]) ∧ Below W.heap.size W w' := by
  cases v with
  | poi => exact operand_0 t 0 0 0 W
  | num x => exact operand_1 t x 0 0 W
  | adr g q => exact operand_2 t 0 g q _ _ _ _ W (fun W => address_any 2 0 g q W)
  | any =>
    by_cases h : t = 65
    · subst h; exact operand_3 65 0 0 0 4 0 0 W (fun W => zero_p W)
    · have e : opdE t .any = (⟨2, 0, 0⟩, true) := by unfold opdE; rw [if_neg h]
      rw [e]
      exact operand_3 t 0 0 0 2 0 0 W (fun W => zero_n t (by simpa using h) W)
end Go.Proofs.Ytpjfkmaceaikbaa
