/- EvalFreezes: the walk. -/
import Derived.Test.YtkbkgbkoplcgeaaEvN
namespace Go.Proofs.Ytkbkgbkoplcgeaa
open Go.RowKit Go.Maps
set_option linter.unusedVariables false
set_option linter.unusedSimpArgs false
set_option maxRecDepth 100000
set_option maxHeartbeats 1000000


theorem fro_fit {t : Int} {a : EV} (h : Fit t a) (ht : 1 ≤ t ∧ t ≤ 65) : Fit t (froE a) := by cases a <;> first | exact (wd_pos t).2 ht | exact h
theorem fro_fro (a : EV) : froE (froE a) = froE a := by cases a <;> rfl
theorem eval_fro {t : Int} (ht : 1 ≤ t ∧ t ≤ 65) (v : Vl) : evalE 24 t 0 0 [v] = (froE (nf t v), 0) := by
  have hf : frmE 24 t 0 0 = true := by
    unfold frmE typE
    rw [andNot_0, if_pos (by decide)]
    simp [ht.1, ht.2]
  unfold evalE
  rw [if_pos ⟨hf, rfl⟩]
  rfl
theorem eval_fro_no {t : Int} (h : ¬ (1 ≤ t ∧ t ≤ 65)) (v : Vl) : evalE 24 t 0 0 [v] = (.poi, 3) := by
  unfold evalE
  rw [if_neg]
  rintro ⟨hf, _⟩
  unfold frmE typE at hf
  rw [if_pos (by decide)] at hf
  simp at hf
  omega
theorem freezes_p (t vk vb vbk vo : Int)  (t1 : ¬ t < 1) (t2 : ¬ 65 < t)
    (c1 : ∀ (w : World) A, Calls Try.prog 35 #[.agg #[.int .i64 24, .int .i64 0, .int .i64 t, .int .i64 0, .int .i64 0, .slice none 0 0, .slice none 0 0], .slice (some ⟨w.heap.size + 1, 0, none⟩) 1 1] ((w.alloc A).alloc (.cells #[.int .i64 vk, .int .u64 vb, .int .i64 vbk, .int .i64 vo] 24)) fun e w' => e = .returned (.tuple #[.agg #[.int .i64 3, .int .u64 0, .int .i64 0, .int .i64 0], .int .i64 0]) ∧ Below (w.alloc A).heap.size (w.alloc A) w')
    (c2 : ∀ (w : World) A, Calls Try.prog 35 #[.agg #[.int .i64 24, .int .i64 0, .int .i64 t, .int .i64 0, .int .i64 0, .slice none 0 0, .slice none 0 0], .slice (some ⟨w.heap.size + 1, 0, none⟩) 1 1] ((w.alloc A).alloc (.cells #[.int .i64 3, .int .u64 0, .int .i64 0, .int .i64 0] 24)) fun e w' => e = .returned (.tuple #[.agg #[.int .i64 3, .int .u64 0, .int .i64 0, .int .i64 0], .int .i64 0]) ∧ Below (w.alloc A).heap.size (w.alloc A) w')
    (c3 : ∀ (w : World) A, Calls Try.prog 35 #[.agg #[.int .i64 23, .int .i64 0, .int .i64 t, .int .i64 0, .int .i64 0, .slice none 0 0, .slice none 0 0], .slice (some ⟨w.heap.size + 1, 0, none⟩) 3 3] ((w.alloc A).alloc (.cells #[.int .i64 1, .int .u64 1, .int .i64 0, .int .i64 0, .int .i64 vk, .int .u64 vb, .int .i64 vbk, .int .i64 vo, .int .i64 0, .int .u64 0, .int .i64 0, .int .i64 0] 24)) fun e w' => e = .returned (.tuple #[.agg #[.int .i64 0, .int .u64 0, .int .i64 0, .int .i64 0], .int .i64 0]) ∧ Below (w.alloc A).heap.size (w.alloc A) w') (W : World) :
    Calls Try.prog 10 #[.int .i64 t, .agg #[.int .i64 vk, .int .u64 vb, .int .i64 vbk, .int .i64 vo]] W fun e w' => e = .returned (.bool true) ∧ Below W.heap.size W w' := by
  have cl := fun W => livesE_any W
  have b0 := bV0
  have b2 := bV2
  have bi := bI2
  have G0 := Lib.hid ((Fr.start W).push (g := W.heap.size) rfl [.int .i64 vk, .int .u64 vb, .int .i64 vbk, .int .i64 vo] 24)
  go_enter Try.func10, Try.ntmps10
  go_wp2_with (first
    | ((with_reducible refine (cl _).mono ?_); rintro e w1 ⟨rfl, hb⟩; have F := G0.out.later hb; obtain ⟨v0, v1, v2, v3, vf⟩ := F.c4 0 rfl; have vz := (F.at 0 rfl).2.1; have G1 := Lib.hid (F.push (g := w1.heap.size) rfl [.int .i64 24, .int .i64 0, .int .i64 t, .int .i64 0, .int .i64 0, .slice none 0 0, .slice none 0 0] 62); clear F hb)
    | ((with_reducible refine (c1 _ _).mono ?_); rintro e w2 ⟨rfl, hb⟩; have F := G1.out.later hb; clear v0 v1 v2 v3 vf vz; obtain ⟨v0, v1, v2, v3, vf⟩ := F.c4 1 rfl; have vz := (F.at 1 rfl).2.1; obtain ⟨i0, i1, i2, i3, i4, i5, i6⟩ := F.c7 0 rfl; have iz := (F.at 0 rfl).2.1; have G2 := Lib.hid (F.push (g := w2.heap.size) rfl [.int .i64 3, .int .u64 0, .int .i64 0, .int .i64 0] 24); clear F hb)
    | ((with_reducible refine (c2 _ _).mono ?_); rintro e w3 ⟨rfl, hb⟩; have F := G2.out.later hb; clear v0 v1 v2 v3 vf vz; obtain ⟨v0, v1, v2, v3, vf⟩ := F.c4 2 rfl; have vz := (F.at 2 rfl).2.1; clear i0 i1 i2 i3 i4 i5 i6 iz; obtain ⟨i0, i1, i2, i3, i4, i5, i6⟩ := F.c7 1 rfl; have iz := (F.at 1 rfl).2.1; obtain ⟨a0, a1, a2, a3, af⟩ := F.c4 0 rfl; have az := (F.at 0 rfl).2.1; have G3 := Lib.hid (F.push (g := w3.heap.size) rfl [.int .i64 3, .int .u64 0, .int .i64 0, .int .i64 0] 24); clear F hb)
    | ((with_reducible refine (c3 _ _).mono ?_); rintro e w4 ⟨rfl, hb⟩; have F := G3.out.later hb; clear v0 v1 v2 v3 vf vz; obtain ⟨v0, v1, v2, v3, vf⟩ := F.c4 3 rfl; have vz := (F.at 3 rfl).2.1; clear i0 i1 i2 i3 i4 i5 i6 iz; obtain ⟨i0, i1, i2, i3, i4, i5, i6⟩ := F.c7 2 rfl; have iz := (F.at 2 rfl).2.1; clear a0 a1 a2 a3 af az; obtain ⟨a0, a1, a2, a3, af⟩ := F.c4 1 rfl; have az := (F.at 1 rfl).2.1; obtain ⟨b0, b1, b2, b3, bf⟩ := F.c4 0 rfl; have bz := (F.at 0 rfl).2.1; have G4 := Lib.hid (F.push (g := w4.heap.size) rfl [.int .i64 0, .int .u64 0, .int .i64 0, .int .i64 0] 24); clear F hb))
  go_ret
  exact ⟨rfl, G4.out.1⟩
theorem freezes_o (t vk vb vbk vo ak ab abk ao : Int) (h0 : (ak != 0) = true) (h1 : (ak == 0) = false) (t1 : ¬ t < 1) (t2 : ¬ 65 < t)
    (c1 : ∀ (w : World) A, Calls Try.prog 35 #[.agg #[.int .i64 24, .int .i64 0, .int .i64 t, .int .i64 0, .int .i64 0, .slice none 0 0, .slice none 0 0], .slice (some ⟨w.heap.size + 1, 0, none⟩) 1 1] ((w.alloc A).alloc (.cells #[.int .i64 vk, .int .u64 vb, .int .i64 vbk, .int .i64 vo] 24)) fun e w' => e = .returned (.tuple #[.agg #[.int .i64 ak, .int .u64 ab, .int .i64 abk, .int .i64 ao], .int .i64 0]) ∧ Below (w.alloc A).heap.size (w.alloc A) w')
    (c2 : ∀ (w : World) A, Calls Try.prog 35 #[.agg #[.int .i64 24, .int .i64 0, .int .i64 t, .int .i64 0, .int .i64 0, .slice none 0 0, .slice none 0 0], .slice (some ⟨w.heap.size + 1, 0, none⟩) 1 1] ((w.alloc A).alloc (.cells #[.int .i64 ak, .int .u64 ab, .int .i64 abk, .int .i64 ao] 24)) fun e w' => e = .returned (.tuple #[.agg #[.int .i64 ak, .int .u64 ab, .int .i64 abk, .int .i64 ao], .int .i64 0]) ∧ Below (w.alloc A).heap.size (w.alloc A) w')
    (c3 : ∀ (w : World) A, Calls Try.prog 35 #[.agg #[.int .i64 23, .int .i64 0, .int .i64 t, .int .i64 0, .int .i64 0, .slice none 0 0, .slice none 0 0], .slice (some ⟨w.heap.size + 1, 0, none⟩) 3 3] ((w.alloc A).alloc (.cells #[.int .i64 1, .int .u64 1, .int .i64 0, .int .i64 0, .int .i64 vk, .int .u64 vb, .int .i64 vbk, .int .i64 vo, .int .i64 0, .int .u64 0, .int .i64 0, .int .i64 0] 24)) fun e w' => e = .returned (.tuple #[.agg #[.int .i64 ak, .int .u64 ab, .int .i64 abk, .int .i64 ao], .int .i64 0]) ∧ Below (w.alloc A).heap.size (w.alloc A) w') (W : World) :
    Calls Try.prog 10 #[.int .i64 t, .agg #[.int .i64 vk, .int .u64 vb, .int .i64 vbk, .int .i64 vo]] W fun e w' => e = .returned (.bool true) ∧ Below W.heap.size W w' := by
  have cl := fun W => livesE_any W
  have b0 := bV0
  have b2 := bV2
  have bi := bI2
  have G0 := Lib.hid ((Fr.start W).push (g := W.heap.size) rfl [.int .i64 vk, .int .u64 vb, .int .i64 vbk, .int .i64 vo] 24)
  go_enter Try.func10, Try.ntmps10
  go_wp2_with (first
    | ((with_reducible refine (cl _).mono ?_); rintro e w1 ⟨rfl, hb⟩; have F := G0.out.later hb; obtain ⟨v0, v1, v2, v3, vf⟩ := F.c4 0 rfl; have vz := (F.at 0 rfl).2.1; have G1 := Lib.hid (F.push (g := w1.heap.size) rfl [.int .i64 24, .int .i64 0, .int .i64 t, .int .i64 0, .int .i64 0, .slice none 0 0, .slice none 0 0] 62); clear F hb)
    | ((with_reducible refine (c1 _ _).mono ?_); rintro e w2 ⟨rfl, hb⟩; have F := G1.out.later hb; clear v0 v1 v2 v3 vf vz; obtain ⟨v0, v1, v2, v3, vf⟩ := F.c4 1 rfl; have vz := (F.at 1 rfl).2.1; obtain ⟨i0, i1, i2, i3, i4, i5, i6⟩ := F.c7 0 rfl; have iz := (F.at 0 rfl).2.1; have G2 := Lib.hid (F.push (g := w2.heap.size) rfl [.int .i64 ak, .int .u64 ab, .int .i64 abk, .int .i64 ao] 24); clear F hb)
    | ((with_reducible refine (c2 _ _).mono ?_); rintro e w3 ⟨rfl, hb⟩; have F := G2.out.later hb; clear v0 v1 v2 v3 vf vz; obtain ⟨v0, v1, v2, v3, vf⟩ := F.c4 2 rfl; have vz := (F.at 2 rfl).2.1; clear i0 i1 i2 i3 i4 i5 i6 iz; obtain ⟨i0, i1, i2, i3, i4, i5, i6⟩ := F.c7 1 rfl; have iz := (F.at 1 rfl).2.1; obtain ⟨a0, a1, a2, a3, af⟩ := F.c4 0 rfl; have az := (F.at 0 rfl).2.1; have G3 := Lib.hid (F.push (g := w3.heap.size) rfl [.int .i64 ak, .int .u64 ab, .int .i64 abk, .int .i64 ao] 24); clear F hb)
    | ((with_reducible refine (c3 _ _).mono ?_); rintro e w4 ⟨rfl, hb⟩; have F := G3.out.later hb; clear v0 v1 v2 v3 vf vz; obtain ⟨v0, v1, v2, v3, vf⟩ := F.c4 3 rfl; have vz := (F.at 3 rfl).2.1; clear i0 i1 i2 i3 i4 i5 i6 iz; obtain ⟨i0, i1, i2, i3, i4, i5, i6⟩ := F.c7 2 rfl; have iz := (F.at 2 rfl).2.1; clear a0 a1 a2 a3 af az; obtain ⟨a0, a1, a2, a3, af⟩ := F.c4 1 rfl; have az := (F.at 1 rfl).2.1; obtain ⟨b0, b1, b2, b3, bf⟩ := F.c4 0 rfl; have bz := (F.at 0 rfl).2.1; have G4 := Lib.hid (F.push (g := w4.heap.size) rfl [.int .i64 ak, .int .u64 ab, .int .i64 abk, .int .i64 ao] 24); clear F hb))
  go_ret
  exact ⟨rfl, G4.out.1⟩
theorem freezes_n (t vk vb vbk vo : Int) (ht : t < 1 ∨ (¬ t < 1 ∧ 65 < t))
    (c1 : ∀ (w : World) A, Calls Try.prog 35 #[.agg #[.int .i64 24, .int .i64 0, .int .i64 t, .int .i64 0, .int .i64 0, .slice none 0 0, .slice none 0 0], .slice (some ⟨w.heap.size + 1, 0, none⟩) 1 1] ((w.alloc A).alloc (.cells #[.int .i64 vk, .int .u64 vb, .int .i64 vbk, .int .i64 vo] 24)) fun e w' => e = .returned (.tuple #[.agg #[.int .i64 0, .int .u64 0, .int .i64 0, .int .i64 0], .int .i64 3]) ∧ Below (w.alloc A).heap.size (w.alloc A) w') (W : World) :
    Calls Try.prog 10 #[.int .i64 t, .agg #[.int .i64 vk, .int .u64 vb, .int .i64 vbk, .int .i64 vo]] W fun e w' => e = .returned (.bool true) ∧ Below W.heap.size W w' := by
  have cl := fun W => livesE_any W
  have b0 := bV0
  have b2 := bV2
  have bi := bI2
  have G0 := Lib.hid ((Fr.start W).push (g := W.heap.size) rfl [.int .i64 vk, .int .u64 vb, .int .i64 vbk, .int .i64 vo] 24)
  rcases ht with t1 | ⟨t1, t2⟩
  all_goals
    go_enter Try.func10, Try.ntmps10
    go_wp2_with (first
      | ((with_reducible refine (cl _).mono ?_); rintro e w1 ⟨rfl, hb⟩; have F := G0.out.later hb; obtain ⟨v0, v1, v2, v3, vf⟩ := F.c4 0 rfl; have vz := (F.at 0 rfl).2.1; have G1 := Lib.hid (F.push (g := w1.heap.size) rfl [.int .i64 24, .int .i64 0, .int .i64 t, .int .i64 0, .int .i64 0, .slice none 0 0, .slice none 0 0] 62); clear F hb)
      | ((with_reducible refine (c1 _ _).mono ?_); rintro e w2 ⟨rfl, hb⟩; have F := G1.out.later hb; clear v0 v1 v2 v3 vf vz; obtain ⟨v0, v1, v2, v3, vf⟩ := F.c4 1 rfl; have vz := (F.at 1 rfl).2.1; obtain ⟨i0, i1, i2, i3, i4, i5, i6⟩ := F.c7 0 rfl; have iz := (F.at 0 rfl).2.1; have G2 := Lib.hid (F.push (g := w2.heap.size) rfl [.int .i64 0, .int .u64 0, .int .i64 0, .int .i64 0] 24); clear F hb))
    go_ret
    exact ⟨rfl, G2.out.1⟩
theorem freezes_walk (t : Int) (v : Vl) (hv : v.ok) (W : World) :
    Calls Try.prog 10 #[.int .i64 t, v.val] W fun e w' => e = .returned (.bool true) ∧ Below W.heap.size W w' := by
  have hlv : ∀ x ∈ ([v] : List Vl), x.ok := fun x hx => by simp at hx; subst hx; exact hv
  have cE1 := fun w A => Eval_lit1 ⟨24, 0, t, 0, 0, none, 0, 0, none, 0, 0, []⟩ lo0 hi0 [v] (by simp) hlv w A
  by_cases ht : 1 ≤ t ∧ t ≤ 65
  · have fa := fro_fit (nf_fit t v) ht
    have cE2 := fun w A => Eval_lit1 ⟨24, 0, t, 0, 0, none, 0, 0, none, 0, 0, []⟩ lo0 hi0 [(froE (nf t v)).vl] (by simp) (fun x hx => by simp at hx; subst hx; exact fa.ok) w A
    have cE3 := fun w A => Eval_lit1 ⟨23, 0, t, 0, 0, none, 0, 0, none, 0, 0, []⟩ lo0 hi0 [⟨1, 1, 0, 0⟩, v, p0] (by simp) (fun x hx => by simp at hx; rcases hx with rfl | rfl | rfl; exact ok1; exact hv; exact ok0) w A
    simp only [eval_fro ht, nf_again fa, fro_fro, eval_read ht.1 ht.2] at cE1 cE2 cE3
    by_cases hp : nf t v = .poi
    · simp only [hp] at cE1 cE2 cE3
      exact freezes_p t v.k v.b v.bk v.o (by omega) (by omega) cE1 cE2 cE3 W
    · have e : froE (nf t v) = nf t v := by
        generalize nf t v = x at *
        cases x <;> first | rfl | exact absurd rfl hp
      simp only [e] at cE1 cE2 cE3
      have hk : (nf t v).vl.k ≠ 0 := by
        generalize nf t v = x at *
        cases x <;> first | exact absurd rfl hp | exact (show (1 : Int) ≠ 0 by decide) | exact (show (2 : Int) ≠ 0 by decide) | exact (show (3 : Int) ≠ 0 by decide)
      exact freezes_o t v.k v.b v.bk v.o _ _ _ _ (by simpa using hk) (ne' hk) (by omega) (by omega) cE1 cE2 cE3 W
  · simp only [eval_fro_no ht] at cE1
    exact freezes_n t v.k v.b v.bk v.o (by omega) cE1 W
end Go.Proofs.Ytkbkgbkoplcgeaa
