/- Package eval: Eval at whatever arguments; the law's small functions. -/
import Derived.Test.YtkbkgbkoplcgeaaEvK
namespace Go.Proofs.Ytkbkgbkoplcgeaa
open Go.RowKit Go.Maps
set_option linter.unusedVariables false
set_option linter.unusedSimpArgs false
set_option maxRecDepth 100000
set_option maxHeartbeats 1000000


theorem cntE_le (op : Int) : 1 ≤ cntE op ∧ cntE op ≤ 3 := by unfold cntE; split <;> (try split) <;> decide
theorem upto_nf (m i : Nat) (t : Int) (l : List Vl) (hm : l.length = m) : uptoV m i (nf t (l.getD i p0)).vl = (nf t (l.getD i p0)).vl := by
  unfold uptoV
  split
  · rfl
  · rename_i h
    have : l.getD i p0 = p0 := by rw [List.getD_eq_getElem?_getD, List.getElem?_eq_none (by omega)]; rfl
    rw [this, nf_p0]
    rfl
theorem Eval_any (d : Ins) (f0 : -9223372036854775808 ≤ d.fl) (f1 : d.fl ≤ 9223372036854775807) (l : List Vl) (p : Option Addr) (c : Nat) (hok : ∀ v ∈ l, v.ok) (W : World) (hl : VlsIn W.heap.size W p l.length c l) :
    Calls Try.prog 35 #[d.val, .slice p l.length c] W fun e w' => e = .returned (.tuple #[(evalE d.op d.ty d.n d.fl l).1.vl.val, .int .i64 (evalE d.op d.ty d.n d.fl l).2]) ∧ Below W.heap.size W w' := by
  have cF := fun W => hasForm_any d W
  have cC : ∀ W, Calls Try.prog 63 #[.int .i64 d.op] W fun e w' => e = .returned (.int .i64 (cntE d.op)) ∧ Below W.heap.size W w' := fun W => (count_any d.op W).mono fun e w' ⟨h1, h2⟩ => ⟨h1, h2 ▸ Below.refl _ _⟩
  have cW := fun i W => wanted_any d i W
  have cM := fun hf a b c fa fb W => made_any d a b c hf f0 f1 fa fb W
  have hcl := cntE_le d.op
  unfold evalE
  by_cases h : frmE d.op d.ty d.n d.fl = true ∧ (l.length : Int) = cntE d.op
  · rw [if_pos h]
    rw [h.1] at cF
    rw [← h.2] at cC
    have cN : ∀ (i : Nat) v, l[i]? = some v → ∀ W, Calls Try.prog 20 #[.int .i64 (wntE d.op d.ty d.n i), v.val] W fun e w' => e = .returned (nf (wntE d.op d.ty d.n i) (l.getD i p0)).vl.val ∧ Below W.heap.size W w' := fun i v hv W => by
      have e : l.getD i p0 = v := by rw [List.getD_eq_getElem?_getD, hv]; rfl
      rw [e, nf_vl]
      exact Norm_any _ v W (hok v (List.mem_of_getElem? hv))
    have cM2 := cM h.1 (nf (wntE d.op d.ty d.n 0) (l.getD 0 p0)) (nf (wntE d.op d.ty d.n 1) (l.getD 1 p0)) (nf (wntE d.op d.ty d.n 2) (l.getD 2 p0)) (nf_fit _ _) (nf_fit _ _)
    rw [← upto_nf l.length 0 _ l rfl, ← upto_nf l.length 1 _ l rfl, ← upto_nf l.length 2 _ l rfl] at cM2
    have cW2 : ∀ (i : Int) W, Calls Try.prog 64 #[d.val, .int .i64 i] W fun e w' => e = .returned (.int .i64 (wntE d.op d.ty d.n i)) ∧ Below W.heap.size W w' := cW
    obtain ⟨op, rg, ty, n, fl, ap, al, ac, tp, tl, tc, ars⟩ := d
    exact eval_ok op rg ty n fl ap al ac tp tl tc p c l.length l cF cC rfl (by omega) (fun i => wntE op ty n i) _ _ _ (fun i W => cW2 i W) (cN 0) (cN 1) (cN 2) _ _ _ _ _ cM2 W hl
  · rw [if_neg h]
    cases hf : frmE d.op d.ty d.n d.fl with
    | false =>
      rw [hf] at cF
      obtain ⟨op, rg, ty, n, fl, ap, al, ac, tp, tl, tc, ars⟩ := d
      exact eval_no op rg ty n fl ap al ac tp tl tc p l.length c cF W
    | true =>
      rw [hf] at cF
      obtain ⟨op, rg, ty, n, fl, ap, al, ac, tp, tl, tc, ars⟩ := d
      exact eval_len op rg ty n fl ap al ac tp tl tc p l.length c cF _ cC (by simp only at h hf ⊢; simp only [bne_iff_ne]; exact fun e => h ⟨hf, e⟩) W
theorem vls_lit (w : World) (l : List Vl) (h : l.length ≤ maxLen) : VlsIn (w.alloc (.cells (l.flatMap vlC).toArray 24)).heap.size (w.alloc (.cells (l.flatMap vlC).toArray 24)) (some ⟨w.heap.size, 0, none⟩) l.length l.length l :=
  ⟨rfl, Nat.le_refl _, h, fun j u hu => ⟨_, rfl, by simp, lit_cells w (l.flatMap vlC).toArray _ j u (by simpa using hu)⟩, fun _ _ => trivial⟩
/-- Eval of a row that was written out. -/
theorem Eval_lit (d : Ins) (f0 : -9223372036854775808 ≤ d.fl) (f1 : d.fl ≤ 9223372036854775807) (l : List Vl) (hl : l.length ≤ 3) (hok : ∀ v ∈ l, v.ok) (w : World) :
    Calls Try.prog 35 #[d.val, .slice (some ⟨w.heap.size, 0, none⟩) l.length l.length] (w.alloc (.cells (l.flatMap vlC).toArray 24)) fun e w' => e = .returned (.tuple #[(evalE d.op d.ty d.n d.fl l).1.vl.val, .int .i64 (evalE d.op d.ty d.n d.fl l).2]) ∧ Below w.heap.size w w' :=
  (Eval_any d f0 f1 l _ _ hok _ (vls_lit w l (by unfold maxLen; omega))).mono fun e w' ⟨h1, h2⟩ => ⟨h1, (below1 w _).trans (h2.mono (below1 w _).size)⟩
theorem Eval_lit1 (d : Ins) (f0 : -9223372036854775808 ≤ d.fl) (f1 : d.fl ≤ 9223372036854775807) (l : List Vl) (hl : l.length ≤ 3) (hok : ∀ v ∈ l, v.ok) (w : World) (A : Obj) :
    Calls Try.prog 35 #[d.val, .slice (some ⟨w.heap.size + 1, 0, none⟩) l.length l.length] ((w.alloc A).alloc (.cells (l.flatMap vlC).toArray 24)) fun e w' => e = .returned (.tuple #[(evalE d.op d.ty d.n d.fl l).1.vl.val, .int .i64 (evalE d.op d.ty d.n d.fl l).2]) ∧ Below (w.alloc A).heap.size (w.alloc A) w' := by
  have := Eval_lit d f0 f1 l hl hok (w.alloc A)
  simp only [World.size_alloc] at this ⊢
  exact this
theorem lo0 : (-9223372036854775808 : Int) ≤ 0 := by decide
theorem hi0 : (0 : Int) ≤ 9223372036854775807 := by decide
theorem ok0 : p0.ok := ⟨by decide, by decide⟩
theorem ok1 : Vl.ok ⟨1, 1, 0, 0⟩ := ⟨by decide, by decide⟩
theorem bI2 (w : World) (op ty : Int) : (Instr.build 62 #[(0, .int .i64 op), (2, .int .i64 ty)]).run Try.prog w = .ok (.agg #[.int .i64 op, .int .i64 0, .int .i64 ty, .int .i64 0, .int .i64 0, .slice none 0 0, .slice none 0 0]) w := run_build _ _ _ _ (by kernel_rfl)
theorem bI3 (w : World) (op n ty : Int) : (Instr.build 62 #[(0, .int .i64 op), (3, .int .i64 n), (2, .int .i64 ty)]).run Try.prog w = .ok (.agg #[.int .i64 op, .int .i64 0, .int .i64 ty, .int .i64 n, .int .i64 0, .slice none 0 0, .slice none 0 0]) w := run_build _ _ _ _ (by kernel_rfl)
theorem ev1 : evalE 1 8 0 0 [⟨1, 200, 0, 0⟩, ⟨1, 100, 0, 0⟩] = (.num 44, 0) := by kernel_rfl
theorem ev2 : evalE 4 8 0 0 [⟨1, 200, 0, 0⟩, ⟨0, 0, 0, 0⟩] = (.poi, 2) := by kernel_rfl
theorem livesE_any (W : World) : Calls Try.prog 34 #[] W fun e w' => e = .returned (.bool true) ∧ Below W.heap.size W w' := by
  have b0 := bV0
  have b2 := bV2
  have bi := bI2
  have c1 : ∀ w, Calls Try.prog 35 #[.agg #[.int .i64 1, .int .i64 0, .int .i64 8, .int .i64 0, .int .i64 0, .slice none 0 0, .slice none 0 0], .slice (some ⟨w.heap.size, 0, none⟩) 2 2] (w.alloc (.cells #[.int .i64 1, .int .u64 200, .int .i64 0, .int .i64 0, .int .i64 1, .int .u64 100, .int .i64 0, .int .i64 0] 24)) fun e w' => e = .returned (.tuple #[.agg #[.int .i64 1, .int .u64 44, .int .i64 0, .int .i64 0], .int .i64 0]) ∧ Below w.heap.size w w' := fun w => by
    have := Eval_lit ⟨1, 0, 8, 0, 0, none, 0, 0, none, 0, 0, []⟩ (by decide) (by decide) [⟨1, 200, 0, 0⟩, ⟨1, 100, 0, 0⟩] (by decide) (by intro v hv; simp at hv; rcases hv with rfl | rfl <;> exact ⟨by decide, by decide⟩) w
    simp only [ev1] at this
    exact this
  have c2 : ∀ w, Calls Try.prog 35 #[.agg #[.int .i64 4, .int .i64 0, .int .i64 8, .int .i64 0, .int .i64 0, .slice none 0 0, .slice none 0 0], .slice (some ⟨w.heap.size, 0, none⟩) 2 2] (w.alloc (.cells #[.int .i64 1, .int .u64 200, .int .i64 0, .int .i64 0, .int .i64 0, .int .u64 0, .int .i64 0, .int .i64 0] 24)) fun e w' => e = .returned (.tuple #[.agg #[.int .i64 0, .int .u64 0, .int .i64 0, .int .i64 0], .int .i64 2]) ∧ Below w.heap.size w w' := fun w => by
    have := Eval_lit ⟨4, 0, 8, 0, 0, none, 0, 0, none, 0, 0, []⟩ (by decide) (by decide) [⟨1, 200, 0, 0⟩, ⟨0, 0, 0, 0⟩] (by decide) (by intro v hv; simp at hv; rcases hv with rfl | rfl <;> exact ⟨by decide, by decide⟩) w
    simp only [ev2] at this
    exact this
  have c3 : ∀ (w : World) A, Calls Try.prog 35 #[.agg #[.int .i64 4, .int .i64 0, .int .i64 8, .int .i64 0, .int .i64 0, .slice none 0 0, .slice none 0 0], .slice (some ⟨w.heap.size + 1, 0, none⟩) 2 2] ((w.alloc A).alloc (.cells #[.int .i64 1, .int .u64 200, .int .i64 0, .int .i64 0, .int .i64 0, .int .u64 0, .int .i64 0, .int .i64 0] 24)) fun e w' => e = .returned (.tuple #[.agg #[.int .i64 0, .int .u64 0, .int .i64 0, .int .i64 0], .int .i64 2]) ∧ Below (w.alloc A).heap.size (w.alloc A) w' := fun w A => by
    have := c2 (w.alloc A)
    simp only [World.size_alloc] at this ⊢
    exact this
  clear c2
  go_enter Try.func34, Try.ntmps34
  go_wp2_with (first
    | ((with_reducible refine (c1 _).mono ?_); rintro e w1 ⟨rfl, hb1⟩)
    | ((with_reducible refine (c3 _ _).mono ?_); rintro e w2 ⟨rfl, hb2⟩; have F := ((Fr.start W).later hb1).push (g := w1.heap.size) rfl [.int .i64 1, .int .u64 44, .int .i64 0, .int .i64 0] 24; have F2 := F.later hb2; obtain ⟨q0, q1, q2, q3, qf⟩ := F2.c4 0 rfl; have hz := (F2.at 0 rfl).2.1; have G := Lib.hid F2; clear F F2 hb1 hb2))
  go_ret
  exact ⟨rfl, (G.out.alloc _).1⟩
theorem Fr.set4a {W w : World} {bs : List (Nat × List Value)} (F : Fr W bs w) (i : Nat) {g : Nat} {cs : List Value} (h : bs[i]? = some (g, cs)) (u0 u1 u2 u3 : Value) (ob : Obj) :
    Below W.heap.size W (((((w.setCell ⟨g, 0, none⟩ u0).setCell ⟨g, 1, none⟩ u1).setCell ⟨g, 2, none⟩ u2).setCell ⟨g, 3, none⟩ u3).alloc ob) := by
  have X := F.set4 i h u0 u1 u2 u3
  exact X.alloc X.size _
theorem nf_out {t : Int} (h : ¬ (1 ≤ t ∧ t ≤ 65)) (v : Vl) : nf t v = .poi := by
  unfold nf
  rw [if_neg (fun x => h (by have := isW_iff.1 x.2; omega)), if_neg (fun x => h (by have := x.2; omega)), if_neg (fun x => h ((wd_pos t).1 x.2))]
theorem read_any (t : Int) (v : Vl) (hv : v.ok) (W : World) : Calls Try.prog 37 #[.int .i64 t, v.val] W fun e w' => e = .returned (nf t v).vl.val ∧ Below W.heap.size W w' := by
  have b0 := bV0
  have b2 := bV2
  have bi := bI2
  have cE := fun w => Eval_lit ⟨23, 0, t, 0, 0, none, 0, 0, none, 0, 0, []⟩ (show (-9223372036854775808 : Int) ≤ 0 by decide) (show (0 : Int) ≤ 9223372036854775807 by decide) [⟨1, 1, 0, 0⟩, v, p0] (Nat.le_refl 3) (by intro x hx; simp at hx; rcases hx with rfl | rfl | rfl; exact ⟨by decide, by decide⟩; exact hv; exact ⟨by decide, by decide⟩) w
  obtain ⟨vk, vb, vbk, vo⟩ := v
  have F : Fr W [_, _] ((W.alloc (.cells #[.int .i64 vk, .int .u64 vb, .int .i64 vbk, .int .i64 vo] 24)).alloc (.cells #[.int .i64 0, .int .u64 0, .int .i64 0, .int .i64 0] 24)) := ((Fr.start W).push rfl [.int .i64 vk, .int .u64 vb, .int .i64 vbk, .int .i64 vo] 24).push (g := W.heap.size + 1) (by simp) [.int .i64 0, .int .u64 0, .int .i64 0, .int .i64 0] 24
  obtain ⟨r0, r1, r2, r3, rf⟩ := F.c4 0 rfl
  obtain ⟨v0, v1, v2, v3, vf⟩ := F.c4 1 rfl
  have G := Lib.hid F
  clear F
  show Calls _ _ #[.int .i64 t, .agg #[.int .i64 vk, .int .u64 vb, .int .i64 vbk, .int .i64 vo]] W _
  by_cases ht : 1 ≤ t ∧ t ≤ 65
  · obtain ⟨⟨xk, xb, xbk, xo⟩, ex⟩ : ∃ x, (nf t ⟨vk, vb, vbk, vo⟩).vl = x := ⟨_, rfl⟩
    simp only [eval_read ht.1 ht.2, ex] at cE
    rw [ex]
    have c1 : Calls Try.prog 35 #[.agg #[.int .i64 23, .int .i64 0, .int .i64 t, .int .i64 0, .int .i64 0, .slice none 0 0, .slice none 0 0], .slice (some ⟨W.heap.size + 1 + 1, 0, none⟩) 3 3] (((W.alloc (.cells #[.int .i64 vk, .int .u64 vb, .int .i64 vbk, .int .i64 vo] 24)).alloc (.cells #[.int .i64 0, .int .u64 0, .int .i64 0, .int .i64 0] 24)).alloc (.cells #[.int .i64 1, .int .u64 1, .int .i64 0, .int .i64 0, .int .i64 vk, .int .u64 vb, .int .i64 vbk, .int .i64 vo, .int .i64 0, .int .u64 0, .int .i64 0, .int .i64 0] 24)) fun e w' => e = .returned (.tuple #[.agg #[.int .i64 xk, .int .u64 xb, .int .i64 xbk, .int .i64 xo], .int .i64 0]) ∧ Below ((W.alloc (.cells #[.int .i64 vk, .int .u64 vb, .int .i64 vbk, .int .i64 vo] 24)).alloc (.cells #[.int .i64 0, .int .u64 0, .int .i64 0, .int .i64 0] 24)).heap.size ((W.alloc (.cells #[.int .i64 vk, .int .u64 vb, .int .i64 vbk, .int .i64 vo] 24)).alloc (.cells #[.int .i64 0, .int .u64 0, .int .i64 0, .int .i64 0] 24)) w' := by
      have := cE ((W.alloc (.cells #[.int .i64 vk, .int .u64 vb, .int .i64 vbk, .int .i64 vo] 24)).alloc (.cells #[.int .i64 0, .int .u64 0, .int .i64 0, .int .i64 0] 24))
      simp only [World.size_alloc] at this ⊢
      exact this
    clear cE ex hv ht
    show Calls _ _ _ W fun e w' => e = .returned (.agg #[.int .i64 xk, .int .u64 xb, .int .i64 xbk, .int .i64 xo]) ∧ _
    go_enter Try.func37, Try.ntmps37
    go_wp2_with (first
      | ((with_reducible refine c1.mono ?_); rintro e w1 ⟨rfl, hb⟩; have F := G.out.later hb; clear r0 r1 r2 r3 rf v0 v1 v2 v3 vf; obtain ⟨r0, r1, r2, r3, rf⟩ := F.c4 0 rfl; have H := Lib.hid F; have hz := (F.at 0 rfl).2.1; clear F hb))
    exact bodyPost_ret (v := .agg #[.int .i64 xk, .int .u64 xb, .int .i64 xbk, .int .i64 xo]) (by simp [results, Try.results37, go_sem, *]) rfl ⟨rfl, H.out.set4a 0 rfl _ _ _ _ _⟩
  · rw [nf_out ht]
    simp only [eval_read_no ht] at cE
    have c1 : Calls Try.prog 35 #[.agg #[.int .i64 23, .int .i64 0, .int .i64 t, .int .i64 0, .int .i64 0, .slice none 0 0, .slice none 0 0], .slice (some ⟨W.heap.size + 1 + 1, 0, none⟩) 3 3] (((W.alloc (.cells #[.int .i64 vk, .int .u64 vb, .int .i64 vbk, .int .i64 vo] 24)).alloc (.cells #[.int .i64 0, .int .u64 0, .int .i64 0, .int .i64 0] 24)).alloc (.cells #[.int .i64 1, .int .u64 1, .int .i64 0, .int .i64 0, .int .i64 vk, .int .u64 vb, .int .i64 vbk, .int .i64 vo, .int .i64 0, .int .u64 0, .int .i64 0, .int .i64 0] 24)) fun e w' => e = .returned (.tuple #[.agg #[.int .i64 0, .int .u64 0, .int .i64 0, .int .i64 0], .int .i64 3]) ∧ Below ((W.alloc (.cells #[.int .i64 vk, .int .u64 vb, .int .i64 vbk, .int .i64 vo] 24)).alloc (.cells #[.int .i64 0, .int .u64 0, .int .i64 0, .int .i64 0] 24)).heap.size ((W.alloc (.cells #[.int .i64 vk, .int .u64 vb, .int .i64 vbk, .int .i64 vo] 24)).alloc (.cells #[.int .i64 0, .int .u64 0, .int .i64 0, .int .i64 0] 24)) w' := by
      have := cE ((W.alloc (.cells #[.int .i64 vk, .int .u64 vb, .int .i64 vbk, .int .i64 vo] 24)).alloc (.cells #[.int .i64 0, .int .u64 0, .int .i64 0, .int .i64 0] 24))
      simp only [World.size_alloc] at this ⊢
      exact this
    clear cE hv ht
    show Calls _ _ _ W fun e w' => e = .returned (.agg #[.int .i64 0, .int .u64 0, .int .i64 0, .int .i64 0]) ∧ _
    go_enter Try.func37, Try.ntmps37
    go_wp2_with (first
      | ((with_reducible refine c1.mono ?_); rintro e w1 ⟨rfl, hb⟩; have F := G.out.later hb; clear r0 r1 r2 r3 rf v0 v1 v2 v3 vf; obtain ⟨r0, r1, r2, r3, rf⟩ := F.c4 0 rfl; have H := Lib.hid F; have hz := (F.at 0 rfl).2.1; clear F hb))
    exact bodyPost_ret (v := .agg #[.int .i64 0, .int .u64 0, .int .i64 0, .int .i64 0]) (by simp [results, Try.results37, go_sem, *]) rfl ⟨rfl, H.out.set4a 0 rfl _ _ _ _ _⟩
end Go.Proofs.Ytkbkgbkoplcgeaa
