/- Package mem: Size, Bytes, Alloc, Free on what a memory shows; Store, Load. -/
import Derived.Test.YtkbkgbkoplcgeaaMR
namespace Go.Proofs.Ytkbkgbkoplcgeaa
open Go.RowKit Go.Maps
set_option linter.unusedVariables false
set_option linter.unusedSimpArgs false

theorem SizeD (o : Nat → Nat) (mb : Nat) (D : Dm) (W : World) (k : Int) (hk : wf64 k) (h : MemD o mb D W) :
    Calls Try.prog 32 #[.pointer (some ⟨mb, 0, none⟩), .int .i64 k] W fun e w' => e = .returned (.int .i64 (dSize D k)) ∧ W = w' := by
  obtain ⟨ab, st, hM, rfl, hw⟩ := h
  rw [dSize_view]
  exact Size_any o mb ab st W k hk hM
theorem BytesD (o : Nat → Nat) (mb : Nat) (D : Dm) (W : World) (k : Int) (hk : wf64 k) (h : MemD o mb D W) :
    Calls Try.prog 26 #[.pointer (some ⟨mb, 0, none⟩), .int .i64 k] W fun e w' => ∃ p c, e = .returned (.slice p (dBytes D k).length c) ∧ w'.ownsRow W.heap.size 32 5 (.slice p (dBytes D k).length c) (dBytes D k).length ((dBytes D k).flatMap byC) ∧ Below W.heap.size W w' := by
  obtain ⟨ab, st, hM, rfl, hw⟩ := h
  rw [dBytes_view]
  exact Bytes_any o mb ab st W k hk hM
theorem wf_snoc {st : Ms} (hw : ∀ (i : Nat) (b : Bk), st[i]? = some (some b) → wf64 b.all.bk) (b : Bk) (hb : wf64 b.all.bk) : ∀ (i : Nat) (c : Bk), (st ++ [some b])[i]? = some (some c) → wf64 c.all.bk := fun i c hc => by
  by_cases h : i < st.length
  · rw [List.getElem?_append_left h] at hc; exact hw i c hc
  · rw [List.getElem?_append_right (by omega)] at hc
    cases e : i - st.length with
    | zero => rw [e] at hc; injection hc with hc; injection hc with hc; subst hc; exact hb
    | succ n => rw [e] at hc; cases hc
theorem wf0 : wf64 0 := ⟨by decide, by decide⟩
theorem AllocD (o : Nat → Nat) (mb : Nat) (D : Dm) (W : World) (n : Int) (hn : wf64 n) (hl : D.length < 1000000) (h : MemD o mb D W) :
    Calls Try.prog 27 #[.pointer (some ⟨mb, 0, none⟩), .int .i64 n] W fun e w' => e = .returned (.int .i64 D.length) ∧ GoesD o mb (dNew D n q0) W w' := by
  obtain ⟨ab, st, hM, rfl, hw⟩ := h
  rw [view_len] at hl ⊢
  refine (Alloc_any o mb ab st W n hn hl hM).mono ?_
  rintro e w' ⟨rfl, b, h1, h2, h3, o', m1, m2, m3⟩
  exact ⟨rfl, o', ⟨ab, _, m1, by rw [view_new st b n h1 h3, h2], wf_snoc hw b (by rw [h2]; exact wf0)⟩, m2, m3⟩
theorem addD (o : Nat → Nat) (mb : Nat) (D : Dm) (W : World) (n : Int) (y : By) (hy : y.ok) (hy2 : y.k ≠ 2) (hyw : wf64 y.bk) (hn : wf64 n) (hl : D.length < 1000000) (h : MemD o mb D W) :
    Calls Try.prog 49 #[.pointer (some ⟨mb, 0, none⟩), .int .i64 n, y.val] W fun e w' => e = .returned (.int .i64 D.length) ∧ GoesD o mb (dNew D n y) W w' := by
  obtain ⟨ab, st, hM, rfl, hw⟩ := h
  rw [view_len] at hl ⊢
  refine (add_any o mb ab st W n y hy hy2 hn hl hM).mono ?_
  rintro e w' ⟨rfl, b, h1, h2, h3, o', m1, m2, m3⟩
  exact ⟨rfl, o', ⟨ab, _, m1, by rw [view_new st b n h1 h3, h2], wf_snoc hw b (by rw [h2]; exact hyw)⟩, m2, m3⟩
theorem FreeD (o : Nat → Nat) (mb : Nat) (D : Dm) (W : World) (k : Int) (hk : wf64 k) (h : MemD o mb D W) :
    Calls Try.prog 28 #[.pointer (some ⟨mb, 0, none⟩), .int .i64 k] W fun e w' => e = .returned (.tuple #[]) ∧ GoesD o mb (dFree D k) W w' := by
  obtain ⟨ab, st, hM, rfl, hw⟩ := h
  refine (Free_any o mb ab st W k hk hM).mono ?_
  rintro e w' ⟨rfl, o', m1, m2, m3⟩
  exact ⟨rfl, o', ⟨ab, _, m1, view_free hM k, fun i b hb => hw i b (freeS_get st k i b hb).1⟩, m2, m3⟩
theorem hold_some {st : Ms} {t : Int} {v : Vl} {b : Bk} (h : holdS st t v = some b) : v.k = 2 ∧ wd t ≠ 0 ∧ atS st v.bk = some b ∧ 0 ≤ v.o ∧ v.o ≤ (b.size : Int) - wd t := by
  unfold holdS at h
  split at h
  · rename_i h1
    split at h
    · cases h
    · rename_i c hc
      split at h
      · rename_i h2
        injection h with h
        subst h
        exact ⟨h1.1, h1.2, hc, h2.1, h2.2⟩
      · cases h
  · cases h
theorem dIn_view (st : Ms) (t : Int) (v : Vl) : dIn (view st) t v = (holdS st t v).isSome := by
  unfold dIn holdS
  rw [atD_view]
  cases h : atS st v.bk with
  | none =>
    show false = (if v.k = 2 ∧ wd t ≠ 0 then (none : Option Bk) else none).isSome
    rw [ite_self]; rfl
  | some b =>
    show decide (v.k = 2 ∧ wd t ≠ 0 ∧ 0 ≤ v.o ∧ v.o + wd t ≤ ((seenL st b 0 b.size).length : Int)) = _
    rw [seenL_len]
    by_cases h1 : v.k = 2 ∧ wd t ≠ 0
    · rw [if_pos h1]
      by_cases h2 : 0 ≤ v.o ∧ v.o ≤ (b.size : Int) - wd t
      · show _ = (if 0 ≤ v.o ∧ v.o ≤ (b.size : Int) - wd t then some b else none).isSome
        rw [if_pos h2]
        exact decide_eq_true ⟨h1.1, h1.2, h2.1, by omega⟩
      · show _ = (if 0 ≤ v.o ∧ v.o ≤ (b.size : Int) - wd t then some b else none).isSome
        rw [if_neg h2]
        exact decide_eq_false (fun x => h2 ⟨x.2.2.1, by omega⟩)
    · rw [if_neg h1]
      exact decide_eq_false (fun x => h1 ⟨x.1, x.2.1⟩)
theorem dLoad_view {st : Ms} {t : Int} {v : Vl} {b : Bk} (h : holdS st t v = some b) : dLoad (view st) t v = seenL st b v.o.toNat (wd t) := by
  obtain ⟨h1, h2, h3, h4, h5⟩ := hold_some h
  unfold dLoad
  rw [seenL_bytes h3]
  refine List.ext_getElem? fun m => ?_
  rw [List.getElem?_take]
  by_cases hm : m < wd t
  · rw [if_pos hm, List.getElem?_drop]
    unfold seenL
    rw [List.getElem?_map, List.getElem?_map, List.getElem?_range hm, List.getElem?_range (by omega)]
    show some (seenAt st b (0 + (v.o.toNat + m))) = some _
    rw [Nat.zero_add]
  · rw [if_neg hm, List.getElem?_eq_none (by rw [seenL_len]; omega)]
theorem pack_wf (t : Int) (v : Vl) (hv : wf64 v.bk) : ∀ y ∈ pack t v, wf64 y.bk := fun y hy => by
  unfold pack at hy
  obtain ⟨i, _, rfl⟩ := List.mem_map.1 hy
  have hn : wf64 (norm t v).bk := by
    unfold norm
    split
    · exact wf0
    · split
      · exact hv
      · split <;> exact wf0
  unfold packAt
  split
  · exact wf0
  · split
    · exact hn
    · split <;> exact wf0
set_option maxHeartbeats 4000000 in
theorem StoreD (o : Nat → Nat) (mb : Nat) (D : Dm) (W : World) (t : Int) (x v : Vl) (hx : x.ok) (hxw : wf64 x.bk) (hv : wf64 v.bk) (hvo : wf64 v.o) (h : MemD o mb D W) :
    Calls Try.prog 29 #[.pointer (some ⟨mb, 0, none⟩), .int .i64 t, x.val, v.val] W fun e w' => e = .returned (.bool (dIn D t v)) ∧ GoesD o mb (dStore D t x v) W w' := by
  obtain ⟨ab, st, hM, rfl, hw⟩ := h
  have HD : ∀ w, Below W.heap.size W w → GoesD o mb (view st) W w := fun w hb => GoesD.read ⟨ab, st, hM, rfl, hw⟩ hb
  have HW := Lib.hid hw
  have HM := Lib.hid hM
  unfold dStore
  rw [dIn_view]
  obtain ⟨xk, xb, xbk, xo⟩ := x
  obtain ⟨vk, vb, vbk, vo⟩ := v
  have hB := below2 W (.cells #[.int .i64 xk, .int .u64 xb, .int .i64 xbk, .int .i64 xo] 24) (.cells #[.int .i64 vk, .int .u64 vb, .int .i64 vbk, .int .i64 vo] 24)
  have hX1 : Box W.heap.size [.int .i64 xk, .int .u64 xb, .int .i64 xbk, .int .i64 xo] ((W.alloc (.cells #[.int .i64 xk, .int .u64 xb, .int .i64 xbk, .int .i64 xo] 24)).alloc (.cells #[.int .i64 vk, .int .u64 vb, .int .i64 vbk, .int .i64 vo] 24)) := (Box.new W rfl _ _).alloc _
  have hV1 : Box (W.heap.size + 1) [.int .i64 vk, .int .u64 vb, .int .i64 vbk, .int .i64 vo] ((W.alloc (.cells #[.int .i64 xk, .int .u64 xb, .int .i64 xbk, .int .i64 xo] 24)).alloc (.cells #[.int .i64 vk, .int .u64 vb, .int .i64 vbk, .int .i64 vo] 24)) := Box.new _ (by simp) _ _
  have c1 : Calls Try.prog 59 #[.pointer (some ⟨mb, 0, none⟩), .int .i64 t, .agg #[.int .i64 vk, .int .u64 vb, .int .i64 vbk, .int .i64 vo]] ((W.alloc (.cells #[.int .i64 xk, .int .u64 xb, .int .i64 xbk, .int .i64 xo] 24)).alloc (.cells #[.int .i64 vk, .int .u64 vb, .int .i64 vbk, .int .i64 vo] 24)) fun e w' => e = .returned (ptrV (holdS st t ⟨vk, vb, vbk, vo⟩)) ∧ Below ((W.alloc (.cells #[.int .i64 xk, .int .u64 xb, .int .i64 xbk, .int .i64 xo] 24)).alloc (.cells #[.int .i64 vk, .int .u64 vb, .int .i64 vbk, .int .i64 vo] 24)).heap.size ((W.alloc (.cells #[.int .i64 xk, .int .u64 xb, .int .i64 xbk, .int .i64 xo] 24)).alloc (.cells #[.int .i64 vk, .int .u64 vb, .int .i64 vbk, .int .i64 vo] 24)) w' := holder_any o mb ab st _ t ⟨vk, vb, vbk, vo⟩ hv hvo (hM.later hB)
  have HB := Lib.hid hB
  have HX1 := Lib.hid hX1
  have HV1 := Lib.hid hV1
  have HDD := Lib.hid HD
  clear hM hw hB hX1 hV1 HD
  show Calls _ _ #[.pointer (some ⟨mb, 0, none⟩), .int .i64 t, .agg #[.int .i64 xk, .int .u64 xb, .int .i64 xbk, .int .i64 xo], .agg #[.int .i64 vk, .int .u64 vb, .int .i64 vbk, .int .i64 vo]] W _
  cases hh : holdS st t ⟨vk, vb, vbk, vo⟩ with
  | none =>
    rw [hh] at c1
    have c2 : Calls Try.prog 59 #[.pointer (some ⟨mb, 0, none⟩), .int .i64 t, .agg #[.int .i64 vk, .int .u64 vb, .int .i64 vbk, .int .i64 vo]] ((W.alloc (.cells #[.int .i64 xk, .int .u64 xb, .int .i64 xbk, .int .i64 xo] 24)).alloc (.cells #[.int .i64 vk, .int .u64 vb, .int .i64 vbk, .int .i64 vo] 24)) fun e w' => e = .returned (.pointer none) ∧ Below ((W.alloc (.cells #[.int .i64 xk, .int .u64 xb, .int .i64 xbk, .int .i64 xo] 24)).alloc (.cells #[.int .i64 vk, .int .u64 vb, .int .i64 vbk, .int .i64 vo] 24)).heap.size ((W.alloc (.cells #[.int .i64 xk, .int .u64 xb, .int .i64 xbk, .int .i64 xo] 24)).alloc (.cells #[.int .i64 vk, .int .u64 vb, .int .i64 vbk, .int .i64 vo] 24)) w' := c1
    clear c1 hh
    go_enter Try.func29, Try.ntmps29
    go_wp2_with (first | ((with_reducible refine c2.mono ?_); rintro e w5 ⟨rfl, hb5⟩))
    go_ret
    exact ⟨rfl, HDD.out _ (HB.out.trans (hb5.mono HB.out.size))⟩
  | some b =>
    rw [hh] at c1
    have c2 : Calls Try.prog 59 #[.pointer (some ⟨mb, 0, none⟩), .int .i64 t, .agg #[.int .i64 vk, .int .u64 vb, .int .i64 vbk, .int .i64 vo]] ((W.alloc (.cells #[.int .i64 xk, .int .u64 xb, .int .i64 xbk, .int .i64 xo] 24)).alloc (.cells #[.int .i64 vk, .int .u64 vb, .int .i64 vbk, .int .i64 vo] 24)) fun e w' => e = .returned (.pointer (some ⟨b.pb, 0, none⟩)) ∧ Below ((W.alloc (.cells #[.int .i64 xk, .int .u64 xb, .int .i64 xbk, .int .i64 xo] 24)).alloc (.cells #[.int .i64 vk, .int .u64 vb, .int .i64 vbk, .int .i64 vo] 24)).heap.size ((W.alloc (.cells #[.int .i64 xk, .int .u64 xb, .int .i64 xbk, .int .i64 xo] 24)).alloc (.cells #[.int .i64 vk, .int .u64 vb, .int .i64 vbk, .int .i64 vo] 24)) w' := c1
    obtain ⟨_, hwd, hat, ho1, ho2⟩ := hold_some hh
    simp only at hat ho1 ho2
    obtain ⟨A, rfl⟩ := Int.eq_ofNat_of_zero_le ho1
    obtain ⟨k0, _, hi⟩ := atS_some hat
    have HE := Lib.hid hat
    have HFI := Lib.hid (HM.out.fit _ _ hi)
    have HII := Lib.hid hi
    rw [if_pos (show (some b).isSome = true from rfl)]
    have hsb : dBytes (view st) vbk = seenL st b 0 b.size := seenL_bytes hat
    show Calls _ _ _ W fun e w' => e = .returned (.bool true) ∧ GoesD o mb ((view st).set vbk.toNat (some (put (dBytes (view st) vbk) A (pack t ⟨xk, xb, xbk, xo⟩)))) W w'
    rw [hsb]
    have c3 : ∀ w, Calls Try.prog 15 #[.int .i64 t, .agg #[.int .i64 xk, .int .u64 xb, .int .i64 xbk, .int .i64 xo]] w fun e w' => ∃ p c, e = .returned (.slice p (wd t) c) ∧ w'.ownsRow w.heap.size 32 5 (.slice p (wd t) c) (wd t) ((pack t ⟨xk, xb, xbk, xo⟩).flatMap byC) ∧ Below w.heap.size w w' := fun w => Pack_any t ⟨xk, xb, xbk, xo⟩ w hx
    have HPL := Lib.hid (pack_len t ⟨xk, xb, xbk, xo⟩)
    have HPO := Lib.hid (pack_ok t ⟨xk, xb, xbk, xo⟩)
    have HPW := Lib.hid (pack_wf t ⟨xk, xb, xbk, xo⟩ hxw)
    have hw8 := wd_le t
    have c4 : ∀ w p c, Below W.heap.size W w → BysIn w.heap.size w p (wd t) c (pack t ⟨xk, xb, xbk, xo⟩) → Calls Try.prog 61 #[.pointer (some ⟨mb, 0, none⟩), .slice p (wd t) c] w fun e w' => ∃ q c, e = .returned (.slice (some q) (wd t) c) ∧ o q.block = 0 ∧ ListIn celC NoMem w'.heap.size w' (some q) (wd t) c ((pack t ⟨xk, xb, xbk, xo⟩).map (layC st)) ∧ Below w.heap.size w w' := fun w p c hb hr => by
      have h1 := cells_any o mb ab st w p c (pack t ⟨xk, xb, xbk, xo⟩) (by rw [HPL.out]; exact hr) HPW.out (by rw [HPL.out]; omega) (HM.out.later hb)
      rw [HPL.out] at h1
      refine h1.mono ?_
      rintro e w' ⟨q, c', rfl, ho, hb'⟩
      have hq : ∃ g, q = some ⟨g, 0, none⟩ := by
        rcases ho.2 with ⟨e, h0⟩ | ⟨g, cap, cur, e, _⟩
        · exact absurd h0 hwd
        · injection e with e1 e2 e3; exact ⟨g, e1⟩
      obtain ⟨g, rfl⟩ := hq
      have hge := (ho.lt g rfl).1
      have hml : ((pack t ⟨xk, xb, xbk, xo⟩).map (layC st)).length = wd t := by rw [List.length_map, HPL.out]
      refine ⟨⟨g, 0, none⟩, c', rfl, ?_, ?_, hb'⟩
      · by_cases e : o g = 0
        · exact e
        · have h2 := HM.out.inside _ e
          have h3 := hb.size
          omega
      · rw [← hml] at ho ⊢
        exact cells_in ho
    have c5 : ∀ w q c, Below W.heap.size W w → o q.block = 0 → ListIn celC NoMem w.heap.size w (some q) (wd t) c ((pack t ⟨xk, xb, xbk, xo⟩).map (layC st)) → Calls Try.prog 60 #[.pointer (some ⟨b.pb, 0, none⟩), .int .i64 A, .slice (some q) (wd t) c] w fun e w' => e = .returned (.tuple #[]) ∧ GoesD o mb ((view st).set vbk.toNat (some (put (seenL st b 0 b.size) A (pack t ⟨xk, xb, xbk, xo⟩)))) W w' := fun w q c hb hq hl => by
      have hml : ((pack t ⟨xk, xb, xbk, xo⟩).map (layC st)).length = wd t := by rw [List.length_map, HPL.out]
      rw [← hml] at hl ⊢
      refine (lay_any o mb ab st w _ b HII.out A q c _ (by rw [hml]; omega) (by rw [hml]; omega) hl hq ?_ (HW.out _ b HII.out) (HM.out.later hb)).mono ?_
      · intro z hz
        obtain ⟨y, hy, rfl⟩ := List.mem_map.1 hz
        refine ⟨⟨HPO.out y hy, HPW.out y hy⟩, fun e => ?_⟩
        unfold layC at e ⊢
        simp only [Bool.and_eq_true, beq_iff_eq] at e
        exact e
      · rintro e w' ⟨rfl, g⟩
        exact ⟨rfl, layD HE.out HFI.out.2.2.1 HW.out hb A _ (by rw [HPL.out]; omega) g⟩
    obtain ⟨n, en⟩ : ∃ n, wd t = n := ⟨_, rfl⟩
    simp only [en] at c3 c4 c5
    have HPL2 : Hid ((pack t ⟨xk, xb, xbk, xo⟩).length = n) := Lib.hid (by rw [← en]; exact HPL.out)
    clear c1 hh hat ho1 ho2 hi hsb hwd hw8 en
    go_enter Try.func29, Try.ntmps29
    go_wp2_with (first | ((with_reducible refine c2.mono ?_); rintro e w5 ⟨rfl, hb5⟩))
    have B5 := HB.out.trans (hb5.mono HB.out.size)
    have X5 := HX1.out.later hb5
    have V5 := HV1.out.later hb5
    have x0 := X5.get 0 _ rfl
    have x1 := X5.get 1 _ rfl
    have x2 := X5.get 2 _ rfl
    have x3 := X5.get 3 _ rfl
    have v0 := V5.get 0 _ rfl
    have v1 := V5.get 1 _ rfl
    have v2 := V5.get 2 _ rfl
    have v3 := V5.get 3 _ rfl
    have HB5 := Lib.hid B5
    have HV5 := Lib.hid V5
    clear B5 X5 V5 hb5
    go_region_law (first
      | (go_simp
         (with_reducible refine (c3 _).mono ?_)
         rintro e w6 ⟨p6, k6, rfl, ho6, hb6⟩
         have B6 := HB5.out.trans (Below.trans (below_drew (Below.refl _ _)) (hb6.mono HB5.out.size))
         have c6 := c4 w6 p6 k6 B6 (bytes_in ho6 HPL2.out.symm)
         have V6 := HV5.out.later (Below.trans (below_drew (Below.refl _ _)) hb6)
         have y3 := V6.get 3 _ rfl
         have HB6 := Lib.hid B6
         have HV6 := Lib.hid V6
         clear ho6 hb6 B6 V6)
      | (go_simp
         (with_reducible refine c6.mono ?_)
         rintro e w7 ⟨q7, k7, rfl, hq7, hl7, hb7⟩
         have B7 := HB6.out.trans (hb7.mono HB6.out.size)
         have c7 := c5 w7 q7 k7 B7 hq7 hl7
         have V7 := HV6.out.later hb7
         have u3 := V7.get 3 _ rfl
         clear hq7 hl7 hb7 B7 V7)
      | (go_simp
         (with_reducible refine c7.mono ?_)
         rintro e w8 ⟨rfl, hG⟩))
    all_goals
      go_wp2_with fail
      go_ret
      exact ⟨rfl, hG⟩
end Go.Proofs.Ytkbkgbkoplcgeaa
