/- Package mem: Load. -/
import Derived.Test.YtkbkgbkoplcgeaaMS
namespace Go.Proofs.Ytkbkgbkoplcgeaa
open Go.RowKit Go.Maps
set_option linter.unusedVariables false
set_option linter.unusedSimpArgs false

theorem seen_ok {o : Nat → Nat} {mb ab : Nat} {st : Ms} {w : World} (h : MemIs o mb ab st w) {i : Nat} {b : Bk} (hi : st[i]? = some (some b)) (f n : Nat) : ∀ y ∈ seenL st b f n, y.ok := fun y hy => by
  obtain ⟨_, _, _, h4, h5⟩ := h.fit i b hi
  unfold seenL at hy
  obtain ⟨j, _, rfl⟩ := List.mem_map.1 hy
  unfold seenAt
  cases e : b.cs[f + j]? with
  | none => exact h4
  | some x =>
    show (if lostB st x then q0 else x.y).ok
    split
    · exact ⟨by decide, by decide⟩
    · exact (h5 x (List.mem_of_getElem? e)).1.1
/-- What Load answers. -/
noncomputable def loadV (D : Dm) (t : Int) (v : Vl) : Vl := if dIn D t v = true then unpack t (dLoad D t v) else p0
set_option maxHeartbeats 4000000 in
theorem LoadD (o : Nat → Nat) (mb : Nat) (D : Dm) (W : World) (t : Int) (v : Vl) (hv : wf64 v.bk) (hvo : wf64 v.o) (h : MemD o mb D W) :
    Calls Try.prog 31 #[.pointer (some ⟨mb, 0, none⟩), .int .i64 t, v.val] W fun e w' => e = .returned (.tuple #[(loadV D t v).val, .bool (dIn D t v)]) ∧ Below W.heap.size W w' := by
  obtain ⟨ab, st, hM, rfl, hw⟩ := h
  have HM := Lib.hid hM
  have b0 := bV0
  unfold loadV
  rw [dIn_view]
  obtain ⟨vk, vb, vbk, vo⟩ := v
  have hB := below2 W (.cells #[.int .i64 vk, .int .u64 vb, .int .i64 vbk, .int .i64 vo] 24) (.cells #[.int .i64 0, .int .u64 0, .int .i64 0, .int .i64 0] 24)
  have hV1 : Box W.heap.size [.int .i64 vk, .int .u64 vb, .int .i64 vbk, .int .i64 vo] ((W.alloc (.cells #[.int .i64 vk, .int .u64 vb, .int .i64 vbk, .int .i64 vo] 24)).alloc (.cells #[.int .i64 0, .int .u64 0, .int .i64 0, .int .i64 0] 24)) := (Box.new W rfl _ _).alloc _
  have hR1 : Box (W.heap.size + 1) [.int .i64 0, .int .u64 0, .int .i64 0, .int .i64 0] ((W.alloc (.cells #[.int .i64 vk, .int .u64 vb, .int .i64 vbk, .int .i64 vo] 24)).alloc (.cells #[.int .i64 0, .int .u64 0, .int .i64 0, .int .i64 0] 24)) := Box.new _ (by simp) _ _
  obtain ⟨W2, eW2⟩ : ∃ W2, (W.alloc (.cells #[.int .i64 vk, .int .u64 vb, .int .i64 vbk, .int .i64 vo] 24)).alloc (.cells #[.int .i64 0, .int .u64 0, .int .i64 0, .int .i64 0] 24) = W2 := ⟨_, rfl⟩
  rw [eW2] at hB hV1 hR1
  have c1 : Calls Try.prog 59 #[.pointer (some ⟨mb, 0, none⟩), .int .i64 t, .agg #[.int .i64 vk, .int .u64 vb, .int .i64 vbk, .int .i64 vo]] W2 fun e w' => e = .returned (ptrV (holdS st t ⟨vk, vb, vbk, vo⟩)) ∧ Below W2.heap.size W2 w' := holder_any o mb ab st _ t ⟨vk, vb, vbk, vo⟩ hv hvo (hM.later hB)
  have HB := Lib.hid hB
  have HV1 := Lib.hid hV1
  have HR1 := Lib.hid hR1
  clear hM hw hB hV1 hR1
  subst eW2
  show Calls _ _ #[.pointer (some ⟨mb, 0, none⟩), .int .i64 t, .agg #[.int .i64 vk, .int .u64 vb, .int .i64 vbk, .int .i64 vo]] W _
  cases hh : holdS st t ⟨vk, vb, vbk, vo⟩ with
  | none =>
    rw [hh] at c1
    rw [if_neg (show ¬ ((none : Option Bk).isSome = true) from fun h => by cases h)]
    have c2 : Calls Try.prog 59 #[.pointer (some ⟨mb, 0, none⟩), .int .i64 t, .agg #[.int .i64 vk, .int .u64 vb, .int .i64 vbk, .int .i64 vo]] ((W.alloc (.cells #[.int .i64 vk, .int .u64 vb, .int .i64 vbk, .int .i64 vo] 24)).alloc (.cells #[.int .i64 0, .int .u64 0, .int .i64 0, .int .i64 0] 24)) fun e w' => e = .returned (.pointer none) ∧ Below ((W.alloc (.cells #[.int .i64 vk, .int .u64 vb, .int .i64 vbk, .int .i64 vo] 24)).alloc (.cells #[.int .i64 0, .int .u64 0, .int .i64 0, .int .i64 0] 24)).heap.size ((W.alloc (.cells #[.int .i64 vk, .int .u64 vb, .int .i64 vbk, .int .i64 vo] 24)).alloc (.cells #[.int .i64 0, .int .u64 0, .int .i64 0, .int .i64 0] 24)) w' := c1
    clear c1 hh
    go_enter Try.func31, Try.ntmps31
    go_wp2_with (first | ((with_reducible refine c2.mono ?_); rintro e w5 ⟨rfl, hb5⟩; have R5 := HR1.out.later hb5; have r0 := R5.get 0 _ rfl; have r1 := R5.get 1 _ rfl; have r2 := R5.get 2 _ rfl; have r3 := R5.get 3 _ rfl; have rf := R5.2.1))
    have P5 : Past W.heap.size W w5 := ⟨Nat.le_refl _, HB.out.trans (hb5.mono HB.out.size)⟩
    exact bodyPost_ret (v := .tuple #[.agg #[.int .i64 0, .int .u64 0, .int .i64 0, .int .i64 0], .bool false]) (by simp [results, Try.results31, go_sem, *]) rfl ⟨rfl, ((((P5.set (Nat.le_succ _) _).set (Nat.le_succ _) _).set (Nat.le_succ _) _).set (Nat.le_succ _) _).2⟩
  | some b =>
    rw [hh] at c1
    have c2 : Calls Try.prog 59 #[.pointer (some ⟨mb, 0, none⟩), .int .i64 t, .agg #[.int .i64 vk, .int .u64 vb, .int .i64 vbk, .int .i64 vo]] ((W.alloc (.cells #[.int .i64 vk, .int .u64 vb, .int .i64 vbk, .int .i64 vo] 24)).alloc (.cells #[.int .i64 0, .int .u64 0, .int .i64 0, .int .i64 0] 24)) fun e w' => e = .returned (.pointer (some ⟨b.pb, 0, none⟩)) ∧ Below ((W.alloc (.cells #[.int .i64 vk, .int .u64 vb, .int .i64 vbk, .int .i64 vo] 24)).alloc (.cells #[.int .i64 0, .int .u64 0, .int .i64 0, .int .i64 0] 24)).heap.size ((W.alloc (.cells #[.int .i64 vk, .int .u64 vb, .int .i64 vbk, .int .i64 vo] 24)).alloc (.cells #[.int .i64 0, .int .u64 0, .int .i64 0, .int .i64 0] 24)) w' := c1
    obtain ⟨_, hwd, hat, ho1, ho2⟩ := hold_some hh
    simp only at hat ho1 ho2
    obtain ⟨A, rfl⟩ := Int.eq_ofNat_of_zero_le ho1
    obtain ⟨k0, _, hi⟩ := atS_some hat
    have h4 := (HM.out.fit _ _ hi).1
    have HII := Lib.hid hi
    rw [if_pos (show (some b).isSome = true from rfl)]
    have hdl : dLoad (view st) t ⟨vk, vb, vbk, (A : Int)⟩ = seenL st b A (wd t) := dLoad_view hh
    rw [hdl]
    have hw8 := wd_le t
    have c3 := fun w => width_any t w
    have c4 : ∀ w, Below W.heap.size W w → Calls Try.prog 58 #[.pointer (some ⟨mb, 0, none⟩), .pointer (some ⟨b.pb, 0, none⟩), .int .i64 A, .int .i64 (wd t)] w fun e w' => ∃ p c, e = .returned (.slice p (wd t) c) ∧ BysIn w'.heap.size w' p (wd t) c (seenL st b A (wd t)) ∧ Below w.heap.size w w' := fun w hb => by
      refine (seen_any o mb ab st w _ b A (wd t) (by omega) (by omega) HII.out (HM.out.later hb)).mono ?_
      rintro e w' ⟨p, c, rfl, hr, hb'⟩
      exact ⟨p, c, rfl, bytes_in hr (seenL_len _ _ _ _).symm, hb'⟩
    have hok := seen_ok HM.out hi A (wd t)
    have c5 : ∀ w p c, BysIn w.heap.size w p (wd t) c (seenL st b A (wd t)) → Calls Try.prog 18 #[.int .i64 t, .slice p (wd t) c] w fun e w' => e = .returned (.agg #[.int .i64 (unpack t (seenL st b A (wd t))).k, .int .u64 (unpack t (seenL st b A (wd t))).b, .int .i64 (unpack t (seenL st b A (wd t))).bk, .int .i64 (unpack t (seenL st b A (wd t))).o]) ∧ Below w.heap.size w w' := fun w p c hr => by
      have h1 := Unpack_any t w p c (seenL st b A (wd t)) (by rw [seenL_len]; exact hr) hok
      rw [seenL_len] at h1
      exact h1
    obtain ⟨u, eu⟩ : ∃ u, unpack t (seenL st b A (wd t)) = u := ⟨_, rfl⟩
    simp only [eu] at c5 ⊢
    obtain ⟨L, eL⟩ : ∃ L, seenL st b A (wd t) = L := ⟨_, rfl⟩
    simp only [eL] at c4 c5
    obtain ⟨n, en⟩ : ∃ n, wd t = n := ⟨_, rfl⟩
    simp only [en] at c3 c4 c5
    obtain ⟨uk, ub, ubk, uo⟩ := u
    simp only at c5
    clear c1 hh hat ho1 ho2 hi hwd hw8 en hdl hok eu eL
    go_enter Try.func31, Try.ntmps31
    go_wp2_with (first | ((with_reducible refine c2.mono ?_); rintro e w5 ⟨rfl, hb5⟩))
    have B5 := HB.out.trans (hb5.mono HB.out.size)
    have R5 := HR1.out.later hb5
    have V5 := HV1.out.later hb5
    have v0 := V5.get 0 _ rfl
    have v1 := V5.get 1 _ rfl
    have v2 := V5.get 2 _ rfl
    have v3 := V5.get 3 _ rfl
    have HB5 := Lib.hid B5
    have HR5 := Lib.hid R5
    clear B5 R5 V5 hb5
    go_region_law (first
      | (go_simp
         (with_reducible refine (c3 _).mono ?_)
         rintro e w' ⟨rfl, rfl⟩
         have c6 := c4 w5.drew (HB5.out.trans (below_drew (Below.refl _ _))))
      | (go_simp
         (with_reducible refine c6.mono ?_)
         rintro e w7 ⟨p7, k7, rfl, hr7, hb7⟩
         have B7 := HB5.out.trans ((Below.trans (below_drew (Below.refl _ _)) hb7).mono HB5.out.size)
         have c7 := c5 w7 p7 k7 hr7
         have R7 := HR5.out.later (Below.trans (below_drew (Below.refl _ _)) hb7)
         have HB7 := Lib.hid B7
         have HR7 := Lib.hid R7
         clear hr7 hb7 B7 R7)
      | (go_simp
         (with_reducible refine c7.mono ?_)
         rintro e w8 ⟨rfl, hb8⟩
         have R8 := HR7.out.later hb8
         have r0 := R8.get 0 _ rfl
         have r1 := R8.get 1 _ rfl
         have r2 := R8.get 2 _ rfl
         have r3 := R8.get 3 _ rfl
         have rf := R8.2.1
         have P8 := Lib.hid (show Past W.heap.size W w8 from ⟨Nat.le_refl _, HB7.out.trans (hb8.mono HB7.out.size)⟩)
         clear R8 hb8))
    all_goals
      go_wp2_with fail
      exact bodyPost_ret (v := .tuple #[.agg #[.int .i64 uk, .int .u64 ub, .int .i64 ubk, .int .i64 uo], .bool true]) (by simp [results, Try.results31, go_sem, *]) rfl ⟨rfl, ((((P8.out.set (Nat.le_succ _) _).set (Nat.le_succ _) _).set (Nat.le_succ _) _).set (Nat.le_succ _) _).2⟩
end Go.Proofs.Ytkbkgbkoplcgeaa
