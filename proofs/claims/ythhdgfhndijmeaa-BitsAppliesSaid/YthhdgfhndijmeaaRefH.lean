/- Contract of the document's answers (package latheref01): fits. -/
import Derived.Test.YthhdgfhndijmeaaRefG
namespace Go.Proofs.Ythhdgfhndijmeaa
open Go.RowKit
set_option linter.unusedVariables false
set_option linter.unusedSimpArgs false

theorem bigOf_inj {x y : Int} : bigOf x = bigOf y ↔ x = y := by
  constructor
  · intro h
    unfold bigOf at h
    simp only [Value.agg.injEq, Array.mk.injEq, List.cons.injEq, Value.int.injEq, Value.bool.injEq, true_and, and_true, decide_eq_decide] at h
    have : mag x = mag y := by omega
    unfold mag at this
    split at this <;> split at this <;> omega
  · rintro rfl; rfl

set_option maxHeartbeats 1000000 in
theorem fits_t (w t a c d l : Int) (p q : Bool) (W : World)
    (c1 : Makes 36 #[.int .i64 w, .agg #[.int .u64 a, .int .u64 l, .bool p]] (.int .u64 t))
    (c2 : Makes 37 #[.int .i64 w, .int .u64 t] (.agg #[.int .u64 c, .int .u64 d, .bool q])) :
    Calls Try.prog 46 #[.int .i64 w, .agg #[.int .u64 a, .int .u64 l, .bool p], .bool true] W fun e w' => e = .returned (.bool (c == a && (d == l && q == p))) ∧ Kept W w' := by
  go_enter Try.func46, Try.ntmps46
  go_wp2_with (first
    | ((with_reducible refine (c1.go _).mono ?_); rintro e w1 ⟨rfl, hb1⟩
       have hz1 : W.heap.size < w1.heap.size := by have := hb1.1.size; simp at this; omega
       have e0 : w1.cell? ⟨W.heap.size, 0, none⟩ = some (.int .u64 a) := by rw [(bcell hb1).1 _ _ (by simp)]; go_simp
       have e1 : w1.cell? ⟨W.heap.size, 1, none⟩ = some (.int .u64 l) := by rw [(bcell hb1).1 _ _ (by simp)]; go_simp
       have e2 : w1.cell? ⟨W.heap.size, 2, none⟩ = some (.bool p) := by rw [(bcell hb1).1 _ _ (by simp)]; go_simp)
    | ((with_reducible refine (c2.go _).mono ?_); rintro e w2 ⟨rfl, hb2⟩
       have hz2 : W.heap.size < w2.heap.size := by have := hb2.1.size; omega
       have f0 : w2.cell? ⟨W.heap.size, 0, none⟩ = some (.int .u64 a) := by rw [(bcell hb2).1 _ _ hz1]; exact e0
       have f1 : w2.cell? ⟨W.heap.size, 1, none⟩ = some (.int .u64 l) := by rw [(bcell hb2).1 _ _ hz1]; exact e1
       have f2 : w2.cell? ⟨W.heap.size, 2, none⟩ = some (.bool p) := by rw [(bcell hb2).1 _ _ hz1]; exact e2))
  all_goals go_ret
  all_goals refine ⟨ret_bool ?_, ((((Kept.refl W).alloc _ _).trans hb1).trans hb2).alloc _ _⟩
  all_goals clear hb1 hb2 c1 c2
  all_goals simp_all
set_option maxHeartbeats 1000000 in
theorem fits_f (w t a c d l : Int) (p q : Bool) (W : World)
    (c1 : Makes 36 #[.int .i64 w, .agg #[.int .u64 a, .int .u64 l, .bool p]] (.int .u64 t))
    (c2 : Makes 47 #[.int .i64 w, .int .u64 t] (.agg #[.int .u64 c, .int .u64 d, .bool q])) :
    Calls Try.prog 46 #[.int .i64 w, .agg #[.int .u64 a, .int .u64 l, .bool p], .bool false] W fun e w' => e = .returned (.bool (c == a && (d == l && q == p))) ∧ Kept W w' := by
  go_enter Try.func46, Try.ntmps46
  go_wp2_with (first
    | ((with_reducible refine (c1.go _).mono ?_); rintro e w1 ⟨rfl, hb1⟩
       have hz1 : W.heap.size < w1.heap.size := by have := hb1.1.size; simp at this; omega
       have e0 : w1.cell? ⟨W.heap.size, 0, none⟩ = some (.int .u64 a) := by rw [(bcell hb1).1 _ _ (by simp)]; go_simp
       have e1 : w1.cell? ⟨W.heap.size, 1, none⟩ = some (.int .u64 l) := by rw [(bcell hb1).1 _ _ (by simp)]; go_simp
       have e2 : w1.cell? ⟨W.heap.size, 2, none⟩ = some (.bool p) := by rw [(bcell hb1).1 _ _ (by simp)]; go_simp)
    | ((with_reducible refine (c2.go _).mono ?_); rintro e w2 ⟨rfl, hb2⟩
       have hz2 : W.heap.size < w2.heap.size := by have := hb2.1.size; omega
       have f0 : w2.cell? ⟨W.heap.size, 0, none⟩ = some (.int .u64 a) := by rw [(bcell hb2).1 _ _ hz1]; exact e0
       have f1 : w2.cell? ⟨W.heap.size, 1, none⟩ = some (.int .u64 l) := by rw [(bcell hb2).1 _ _ hz1]; exact e1
       have f2 : w2.cell? ⟨W.heap.size, 2, none⟩ = some (.bool p) := by rw [(bcell hb2).1 _ _ hz1]; exact e2))
  all_goals go_ret
  all_goals refine ⟨ret_bool ?_, ((((Kept.refl W).alloc _ _).trans hb1).trans hb2).alloc _ _⟩
  all_goals clear hb1 hb2 c1 c2
  all_goals simp_all

theorem agg_beq (x y : Int) : (mag x / 18446744073709551616 == mag y / 18446744073709551616 && (mag x % 18446744073709551616 == mag y % 18446744073709551616 && decide (x < 0) == decide (y < 0))) = (x == y) := by
  rw [Bool.eq_iff_iff]
  simp only [Bool.and_eq_true, beq_iff_eq, decide_eq_decide]
  unfold mag
  split <;> split <;> omega
/-- Is a whole number one of the width, read with a sign, or without? -/
theorem fits_of (w z : Int) (h1 : 1 ≤ w) (h2 : w ≤ 64) (sign : Bool) :
    Makes 46 #[.int .i64 w, bigOf z, .bool sign] (.bool (if sign then sgn w (z % pw w.toNat) == z else z % pw w.toNat == z)) := by
  intro W
  have hm := mod_u64 z h1 h2
  have c1 := Wrapped_of w z h1 h2
  have e : z % pw w.toNat % pw w.toNat = z % pw w.toNat := Int.emod_emod _ _
  cases sign
  · have c2 := Plain_of w (z % pw w.toNat) h1 h2 hm.1 hm.2
    rw [e] at c2
    simp only [Bool.false_eq_true, if_false]
    rw [← agg_beq]
    exact fits_f _ _ _ _ _ _ _ _ W c1 c2
  · have c2 := With_of w (z % pw w.toNat) h1 h2 hm.1 hm.2
    simp only [if_true]
    rw [← agg_beq]
    exact fits_t _ _ _ _ _ _ _ _ W c1 c2
end Go.Proofs.Ythhdgfhndijmeaa
