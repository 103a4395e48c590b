/- EvalChains: the closure. -/
import Derived.Test.YtkbkgbkoplcgeaaEvN
namespace Go.Proofs.Ytkbkgbkoplcgeaa
open Go.RowKit Go.Maps
set_option linter.unusedVariables false
set_option linter.unusedSimpArgs false
set_option maxRecDepth 100000
set_option maxHeartbeats 1000000


theorem one_row (op fr t2 vk vb vbk vo xk xb xbk xo : Int) (c1 : ∀ (w : World) A, Calls Try.prog 35 #[.agg #[.int .i64 op, .int .i64 0, .int .i64 t2, .int .i64 fr, .int .i64 0, .slice none 0 0, .slice none 0 0], .slice (some ⟨w.heap.size + 1, 0, none⟩) 1 1] ((w.alloc A).alloc (.cells #[.int .i64 vk, .int .u64 vb, .int .i64 vbk, .int .i64 vo] 24)) fun e w' => e = .returned (.tuple #[.agg #[.int .i64 xk, .int .u64 xb, .int .i64 xbk, .int .i64 xo], .int .i64 0]) ∧ Below (w.alloc A).heap.size (w.alloc A) w') (W : World) :
    Calls Try.prog 39 #[.int .i64 op, .int .i64 fr, .int .i64 t2, .agg #[.int .i64 vk, .int .u64 vb, .int .i64 vbk, .int .i64 vo]] W fun e w' => e = .returned (.agg #[.int .i64 xk, .int .u64 xb, .int .i64 xbk, .int .i64 xo]) ∧ Below W.heap.size W w' := by
  have bi := bI3
  have F := ((Fr.start W).push (g := W.heap.size) rfl [.int .i64 vk, .int .u64 vb, .int .i64 vbk, .int .i64 vo] 24).push (g := W.heap.size + 1) (by simp) [.int .i64 0, .int .u64 0, .int .i64 0, .int .i64 0] 24
  have c2 : Calls Try.prog 35 #[.agg #[.int .i64 op, .int .i64 0, .int .i64 t2, .int .i64 fr, .int .i64 0, .slice none 0 0, .slice none 0 0], .slice (some ⟨W.heap.size + 1 + 1, 0, none⟩) 1 1] (((W.alloc (.cells #[.int .i64 vk, .int .u64 vb, .int .i64 vbk, .int .i64 vo] 24)).alloc (.cells #[.int .i64 0, .int .u64 0, .int .i64 0, .int .i64 0] 24)).alloc (.cells #[.int .i64 vk, .int .u64 vb, .int .i64 vbk, .int .i64 vo] 24)) fun e w' => e = .returned (.tuple #[.agg #[.int .i64 xk, .int .u64 xb, .int .i64 xbk, .int .i64 xo], .int .i64 0]) ∧ Below ((W.alloc (.cells #[.int .i64 vk, .int .u64 vb, .int .i64 vbk, .int .i64 vo] 24)).alloc (.cells #[.int .i64 0, .int .u64 0, .int .i64 0, .int .i64 0] 24)).heap.size ((W.alloc (.cells #[.int .i64 vk, .int .u64 vb, .int .i64 vbk, .int .i64 vo] 24)).alloc (.cells #[.int .i64 0, .int .u64 0, .int .i64 0, .int .i64 0] 24)) w' := by
    have := c1 (W.alloc (.cells #[.int .i64 vk, .int .u64 vb, .int .i64 vbk, .int .i64 vo] 24)) (.cells #[.int .i64 0, .int .u64 0, .int .i64 0, .int .i64 0] 24)
    simp only [World.size_alloc] at this ⊢
    exact this
  have G0 := Lib.hid F
  clear F c1
  go_enter Try.func39, Try.ntmps39
  go_wp2_with (first
    | ((with_reducible refine c2.mono ?_); rintro e w1 ⟨rfl, hb⟩; have F := G0.out.later hb; obtain ⟨r0, r1, r2, r3, rf⟩ := F.c4 0 rfl; have rz := (F.at 0 rfl).2.1; obtain ⟨v0, v1, v2, v3, vf⟩ := F.c4 1 rfl; have vz := (F.at 1 rfl).2.1; have G1 := Lib.hid F; clear F hb))
  exact bodyPost_ret (v := .agg #[.int .i64 xk, .int .u64 xb, .int .i64 xbk, .int .i64 xo]) (by simp [results, Try.results39, go_sem, *]) rfl ⟨rfl, G1.out.set4a 0 rfl _ _ _ _ _⟩
theorem one_any (op fr t2 : Int) (hc : cvB op fr t2 = true) (v : Vl) (hv : v.ok) (W : World) :
    Calls Try.prog 39 #[.int .i64 op, .int .i64 fr, .int .i64 t2, v.val] W fun e w' => e = .returned (conE op fr t2 (nf fr v)).vl.val ∧ Below W.heap.size W w' := by
  have c1 := fun w A => Eval_lit1 ⟨op, 0, t2, fr, 0, none, 0, 0, none, 0, 0, []⟩ lo0 hi0 [v] (by simp) (fun x hx => by simp at hx; subst hx; exact hv) w A
  simp only [eval_con hc] at c1
  exact one_row op fr t2 _ _ _ _ _ _ _ _ c1 W
end Go.Proofs.Ytkbkgbkoplcgeaa
