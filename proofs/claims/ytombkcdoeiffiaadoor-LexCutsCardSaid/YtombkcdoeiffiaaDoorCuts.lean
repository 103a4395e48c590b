/- lathelaw03.LexCuts: its walk. -/
import Derived.Test.YtombkcdoeiffiaaDoorSame
import Derived.Test.YtombkcdoeiffiaaDoorLexW
namespace Go.Proofs.YtombkcdoeiffiaaDoor
open Go.RowKit Go.Maps
set_option linter.unusedVariables false
set_option linter.unusedSimpArgs false

theorem fltV_eq (f : Option Flt) : fltV f = .agg #[.int .i64 (fCode f), .int .i64 (fLine f), .int .i64 (fCol f)] := by cases f <;> rfl

set_option maxRecDepth 100000 in
set_option maxHeartbeats 4000000 in
theorem cuts_walk (s : ByteArray) (hs : s.size ≤ 281474976710656) (W : World) (hE : Errs W) :
    Calls Tryd.prog 3 #[.string s] W fun e w' => e = .returned (.bool true) ∧ Below W.heap.size W w' := by
  have hP := Past.refl (Nat.le_refl W.heap.size)
  have cl := lives_any W hE
  go_enter Tryd.func3, Tryd.ntmps3
  go_wp2_with ((with_reducible refine cl.mono ?_); rintro e w1 ⟨rfl, hb1⟩)
  have P1 := hP.on hb1
  refine (Tokens_any s (by omega) _ (hE.below hb1 (Nat.le_refl _))).mono ?_
  rintro e w2 ⟨ts, f, v, ht, rfl, hb2, hr2⟩
  have P2 := P1.on hb2
  rw [fltV_eq]
  generalize hc0 : fCode f = c0
  generalize hc1 : fLine f = c1
  generalize hc2 : fCol f = c2
  go_wp2_with fail
  refine (Tokens_any s (by omega) _ (hE.below (P2.alloc _).2 (Nat.le_refl _))).mono ?_
  rintro e w3 ⟨ts', f', v3, ht', rfl, hb3, hr3⟩
  obtain ⟨e2, e3⟩ := ht'.unique ht
  have e2 := e2.symm
  have e3 := e3.symm
  subst e2 e3
  have P3 := (P2.alloc _).on hb3
  rw [fltV_eq, hc0, hc1, hc2]
  go_wp2_with fail
  refine (rTokens_any s hs _).mono ?_
  rintro e w4 ⟨ts', f', v4, ht'', rfl, hb4, hr4⟩
  obtain ⟨e2, e3⟩ := ht''.unique ht
  have e2 := e2.symm
  have e3 := e3.symm
  subst e2 e3
  have P4 := (P3.alloc _).on hb4
  rw [hc0, hc1, hc2]
  have hlen := toks_len ht
  obtain ⟨z, a0, a1, a2, _⟩ := (((Three.new w2 (.int .i64 c0) (.int .i64 c1) (.int .i64 c2) 26).below hb3 (by simp)).alloc (.cells #[.int .i64 c0, .int .i64 c1, .int .i64 c2] 26)).below hb4 (by have := hb3.size; simp at this ⊢; omega)
  have rA := ownsRow_below ((ownsRow_below (hr2.alloc (.cells #[.int .i64 c0, .int .i64 c1, .int .i64 c2] 26)) hb3).alloc (.cells #[.int .i64 c0, .int .i64 c1, .int .i64 c2] 26)) hb4
  have rB := ownsRow_below (hr3.alloc (.cells #[.int .i64 c0, .int .i64 c1, .int .i64 c2] 26)) hb4
  have hvA : ∀ j, v.ownBlock = some j → j < w2.heap.size := fun j hj => (hr2.lt j hj).2
  have hvB : ∀ j, v3.ownBlock = some j → w2.heap.size < j := fun j hj => by have := (hr3.lt j hj).1; simp at this; omega
  have hvC : ∀ j, v4.ownBlock = some j → w2.heap.size < j := fun j hj => by have h1 := (hr4.lt j hj).1; have h2 := hb3.size; simp at h1 h2; omega
  obtain ⟨pp, cc, ev⟩ := row_shape rA
  subst ev
  go_wp2_with fail
  refine (same_eq _ _ _ _ _ ts rA hr4 (by omega)).mono ?_
  rintro e w5 ⟨rfl, hb5⟩
  have P5 := P4.on hb5
  have rA5 := ownsRow_below rA hb5
  have rB5 := ownsRow_below rB hb5
  have rC5 := ownsRow_below hr4 hb5
  go_wp2_with fail
  go_loopw [45] (fun t wr => ∃ (k : Nat) (xs : List Value), k ≤ ts.length ∧ t = .int .i64 k ∧ wr.ownsRow w1.heap.size 33 4 (.slice pp ts.length cc) ts.length xs ∧ w5.grownBy wr (Value.slice pp ts.length cc).ownBlock) (fun t _ => ts.length - (intOf t).toNat)
  case atStart => exact ⟨0, _, Nat.zero_le _, rfl, rA5, World.grownBy.refl _ _⟩
  case round =>
    obtain ⟨k, xs, hk, rfl, hrow, hgr⟩ := hrel
    by_cases hkn : k < ts.length
    · obtain ⟨g, c1, e1, _, _⟩ := hrow.form (by omega)
      injection e1 with e1 _ e3
      subst e1 e3
      have hxl := hrow.1
      have y0 : wr.cell? ⟨g, k * 4, none⟩ = some xs[k * 4] := (hrow.cellAt (k * 4) (by omega)).trans (List.getElem?_eq_getElem (by omega))
      have y1 : wr.cell? ⟨g, k * 4 + 1, none⟩ = some xs[k * 4 + 1] := (hrow.cellAt (k * 4 + 1) (by omega)).trans (List.getElem?_eq_getElem (by omega))
      have y2 : wr.cell? ⟨g, k * 4 + 2, none⟩ = some xs[k * 4 + 2] := (hrow.cellAt (k * 4 + 2) (by omega)).trans (List.getElem?_eq_getElem (by omega))
      have y3 : wr.cell? ⟨g, k * 4 + 3, none⟩ = some xs[k * 4 + 3] := (hrow.cellAt (k * 4 + 3) (by omega)).trans (List.getElem?_eq_getElem (by omega))
      have f0 := hrow.frozenAt (k * 4)
      have f1 := hrow.frozenAt (k * 4 + 1)
      have f2 := hrow.frozenAt (k * 4 + 2)
      have f3 := hrow.frozenAt (k * 4 + 3)
      have s0 := hrow.stored (k * 4) (.int .i64 99)
      have s1 := s0.1.stored (k * 4 + 1) (.string ⟨#[]⟩)
      have s2 := s1.1.stored (k * 4 + 2) (.int .i64 0)
      have s3 := s2.1.stored (k * 4 + 3) (.int .i64 0)
      have G := (((hgr.trans s0.2).trans s1.2).trans s2.2).trans s3.2
      have S3 := Lib.hid s3.1
      have GG := Lib.hid G
      generalize xs[k * 4] = z0 at y0
      generalize xs[k * 4 + 1] = z1 at y1
      generalize xs[k * 4 + 2] = z2 at y2
      generalize xs[k * 4 + 3] = z3 at y3
      clear s0 s1 s2 s3 G hxl
      go_wp2_with fail
      exact ⟨⟨k + 1, _, by omega, by go_num, S3.out, GG.out⟩, by simp [intOf]; omega⟩
    · obtain rfl : k = ts.length := by omega
      have rB6 := rB5.kept hgr (by
        cases h : v3.ownBlock with
        | none => exact .inl rfl
        | some j => exact .inr (fun e => by have h1 := hvB j h; have h2 := hvA j e.symm; omega))
      have rC6 := rC5.kept hgr (by
        cases h : v4.ownBlock with
        | none => exact .inl rfl
        | some j => exact .inr (fun e => by have h1 := hvC j h; have h2 := hvA j e.symm; omega))
      have P6 := P5.grownRow hgr (fun j hj => by have h1 := (hr2.lt j hj).1; have h2 := P1.size; omega)
      have k1 := Word_any s (by omega)
      have k2 := rWord_any s hs
      generalize (decide (0 < s.size) && decide (wordSize s.data.toList = s.size)) = q at *
      go_wp2_with fail
      refine (same_eq _ _ _ _ _ ts rB6 rC6 (by omega)).mono ?_
      rintro e w7 ⟨rfl, hb7⟩
      go_wp2_with (first
        | ((with_reducible refine (k1 _).mono ?_); rintro e w' ⟨rfl, rfl⟩)
        | ((with_reducible refine (k2 _).mono ?_); rintro e w' ⟨rfl, rfl⟩))
      go_ret
      exact ⟨by simp, (P6.on hb7).2⟩
end Go.Proofs.YtombkcdoeiffiaaDoor
