/- Package graph: Order's begin. -/
import Derived.Test.YtphdhndljgihmaaGOrdA
import Derived.Deep.RegionHeld3
import Derived.Deep.DeepCutAuto
namespace Go.Proofs.Ytphdhndljgihmaa
open Go.RowKit Go.Maps
set_option linter.unusedVariables false
set_option linter.unusedSimpArgs false

theorem infoVis : (Try.prog.info? 63).map (fun i => (i.zero, i.size, i.bytes)) = some (some (.agg #[.int .i64 0, .slice none 0 0]), 2, 32) := by kernel_rfl
/-- A list of one's own as a visit's. -/
theorem lst_own {lo : Nat} {w : World} {b : Nat} {p : Option Addr} {c : Nat} {L : List Nat} (h : w.ownsRow lo 3 1 (.slice p L.length c) L.length ((ints L).flatMap intC)) : Lst lo none none w ⟨b, p, c, L⟩ ∧ ∀ a, 0 < L.length → p = some a → lo ≤ a.block := by
  have hlt := h.lt
  obtain ⟨h1, h2⟩ := h
  rcases h2 with ⟨e, h0⟩ | ⟨g, cap, cur, e, hg, hh, k1, k2, k3, k4⟩
  · injection e with e1 e2 e3
    subst e1 e3
    refine ⟨⟨by show L.length ≤ 0; omega, Nat.zero_le _, fun j hj => ?_⟩, fun a _ e => by cases e⟩
    have hj : j < L.length := hj
    omega
  · injection e with e1 e2 e3
    subst e1 e3
    refine ⟨⟨k1, k2, fun j hj => ⟨⟨g, 0, none⟩, rfl, hg, (Array.getElem?_eq_some_iff.1 hh).1, by simp, by simp, ?_⟩⟩, fun a _ e => by injection e with e; rw [← e]; exact hg⟩
    have hj : j < L.length := hj
    have hown : w.ownsRow lo 3 1 (.slice (some ⟨g, 0, none⟩) L.length c) L.length ((ints L).flatMap intC) := ⟨h1, .inr ⟨g, c, cur, rfl, hg, hh, k1, k2, k3, k4⟩⟩
    rw [add0, hown.cellAt j (by omega), intC_map, List.getElem?_map, List.getElem?_eq_getElem (by rw [ints_len]; exact hj)]
    show some (Value.int .i64 ((ints L)[j]'(by rw [ints_len]; exact hj))) = _
    rw [ints_get L j hj]
theorem Lst.lo {lo lo' : Nat} {g h : Option Nat} {w : World} {v : VS} (k : Lst lo g h w v) (hl : lo' ≤ lo) : Lst lo' g h w v := ⟨k.1, k.2.1, fun j hj => by
  obtain ⟨a, e, h1, h2⟩ := k.2.2 j hj
  exact ⟨a, e, Nat.le_trans hl h1, h2⟩⟩
set_option maxRecDepth 100000 in
set_option maxHeartbeats 2000000 in
theorem begin_any (W : World) (f : LFn) (hf : FnIn W.heap.size W f) (hs : FnSm f) {d : DS} {es : List VS} {vO vU : Value} {w : World} (h : OrdI W (fnC f) f.bs.length d es vO vU w) (t : Nat) (ht : t < f.bs.length) (hes : es.length ≤ 1048576) (hbs : f.bs.length ≤ 1048576) :
    Calls Try.prog 39 #[.int .i64 t, .pointer (some ⟨W.heap.size + 2, 0, none⟩), .pointer (some ⟨W.heap.size + 3, 0, none⟩), .pointer (some ⟨W.heap.size, 0, none⟩)] w fun e w' =>
      e = .returned (.tuple #[]) ∧ ∃ vU' v, v.b = t ∧ v.l = succP (fnD f).bs t ∧ OrdI W (fnC f) f.bs.length ⟨(t, succP (fnD f).bs t) :: d.st, d.out, t :: d.md⟩ (es ++ [v]) vO vU' w' := by
  obtain ⟨q, c, rfl⟩ := row_slice h.urow
  have HM := Lib.hid (h.mark t)
  have m0 := h.mbox.get 0 _ rfl
  have r0 := h.mrow.cell ht
  have r1 := h.mrow.frozen t
  obtain ⟨i0, hi, hz0, hz1, hz2⟩ := info_parts infoVis
  have HI := Lib.hid (And.intro hi (And.intro hz0 (And.intro hz1 hz2)))
  have cS := fun (w : World) (hb : FnIn w.heap.size w f) => Succs_own f t w hb hs
  obtain ⟨S, eS⟩ : ∃ S, succP (fnD f).bs t = S := ⟨_, rfl⟩
  simp only [succI_nat, eS] at cS ⊢
  obtain ⟨n, en⟩ : ∃ n, f.bs.length = n := ⟨_, rfl⟩
  simp only [en] at HM m0 r0 r1 ht hbs ⊢
  obtain ⟨nm, pp, pn, pc, ps, rt, bp, bn, bc, bs⟩ := f
  obtain ⟨f, ef⟩ : ∃ f : LFn, f = ⟨nm, pp, pn, pc, ps, rt, bp, bn, bc, bs⟩ := ⟨_, rfl⟩
  have hfc : fnC ⟨nm, pp, pn, pc, ps, rt, bp, bn, bc, bs⟩ = [.string nm, .slice pp pn pc, .int .i64 rt, .slice bp bn bc] := rfl
  have HF := Lib.hid hf
  simp only [hfc] at cS HM ⊢
  clear h hf hs en eS ef hfc hi hz0 hz1 hz2
  obtain ⟨w1, ew1⟩ : ∃ w1, w.setCell ⟨W.heap.size + 1, t, none⟩ (.bool true) = w1 := ⟨_, rfl⟩
  rw [ew1] at HM
  have cS : ∀ u, Below w1.heap.size w1 u → Calls Try.prog 40 #[.agg #[.string nm, .slice pp pn pc, .int .i64 rt, .slice bp bn bc], .int .i64 t] u fun e w' => ∃ p cc, e = .returned (.slice p S.length cc) ∧ Hid (w'.ownsRow w1.heap.size 3 1 (.slice p S.length cc) S.length ((ints S).flatMap intC)) ∧ Below w1.heap.size w1 w' := by
    intro u hb
    refine (cS u ((HM.out.later hb).fnS HF.out)).mono ?_
    rintro e w' ⟨p, cc, he, hp, ho⟩
    have ho' : w'.ownsRow w1.heap.size 3 1 (.slice p S.length cc) S.length ((ints S).flatMap intC) := ho.2.1.mono hb.size
    exact ⟨p, cc, he, Lib.hid ho', hb.trans (hp.2.mono hb.size)⟩
  have HS : Hid (∀ u, Below w1.heap.size w1 u → (u.cell? ⟨W.heap.size, 0, none⟩ = some (.string nm) ∧ u.cell? ⟨W.heap.size, 1, none⟩ = some (.slice pp pn pc) ∧ u.cell? ⟨W.heap.size, 2, none⟩ = some (.int .i64 rt) ∧ u.cell? ⟨W.heap.size, 3, none⟩ = some (.slice bp bn bc) ∧ u.cell? ⟨W.heap.size + 3, 0, none⟩ = some (.slice q es.length c))) :=
    Lib.hid (fun u hb => ⟨(HM.out.later hb).box.get 0 _ rfl, (HM.out.later hb).box.get 1 _ rfl, (HM.out.later hb).box.get 2 _ rfl, (HM.out.later hb).box.get 3 _ rfl, (HM.out.later hb).ubox.get 0 _ rfl⟩)
  have hlt := HM.out.urow.lt
  have hbig := HM.out.big
  have HLT := Lib.hid hlt
  have HU := Lib.hid (HM.out.urow)
  clear hlt
  go_enter Try.func39, Try.ntmps39
  go_upto_region 1 with fail
  clear m0 r0 r1 ew1
  obtain ⟨s0, s1, s2, s3, s4⟩ := HS.out w1 (Below.refl _ _)
  have hb0 : Below w1.heap.size w1 w1 := Below.refl _ _
  go_wp2_with fail
  go_region_law (first
    | (refine step_append_at rfl (.tmp 8) (.tmp 14) 60 rfl (W.heap.size + 4) 63 i0 _ 2 32 Try.underlying60 HI.out.1 HI.out.2.1 HI.out.2.2.1 HI.out.2.2.2 rfl (by decide) (.slice q es.length c) es.length (es.flatMap visC) rfl (((HM.out.later hb5).urow).alloc _) (some ⟨w5.heap.size, 0, none⟩) 1 1 [.int .i64 t, .slice p S.length cc] rfl rfl (lit_at' w5 rfl [.int .i64 t, .slice p S.length cc] _) (by intro u hu; simp at hu; rcases hu with rfl | rfl <;> rfl) (by unfold maxLen; omega) (by omega) (by simp; omega) ?_
       intro v8 w8 hown8 hgrow8 hmv8
       obtain ⟨q8, c8, rfl⟩ := row_slice hown8
       have G8 := ((HM.out.later hb5).alloc (.cells #[.int .i64 t, .slice p S.length cc] 63)).ubox.kept hgrow8 (fun ee => by have := (HLT.out _ ee.symm).1; omega)
       have k0 := G8.get 0 _ rfl
       have kf := G8.2.1)
    | (go_simp
       (with_reducible refine (cS _ ?pre).mono ?_)
       case pre => (repeat (first | (with_reducible assumption) | (with_reducible apply below_drew)))
       rintro ee w5 ⟨p, cc, rfl, ho5, hb5⟩
       obtain ⟨s0, s1, s2, s3, s4⟩ := HS.out _ hb5
       have lw5 := hb5.size
       have lw5' : W.heap.size + 4 ≤ w5.heap.size := by omega
       have lw6 : W.heap.size + 3 < w5.heap.size := by omega))
  all_goals
    go_wp2_with fail
    go_end0
    have hl := lst_own (b := t) (ho5.out.alloc (.cells #[.int .i64 t, .slice p S.length cc] 63))
    exact ⟨rfl, _, ⟨t, p, cc, S⟩, rfl, rfl, OrdI.push (d := ⟨d.st, d.out, t :: d.md⟩) ((HM.out.later hb5).alloc (.cells #[.int .i64 t, .slice p S.length cc] 63)) (hl.1.lo hbig)
      (fun j hj a ha => ⟨fun e => by have h1 := (HLT.out _ e.symm).2; have h2 := hl.2 a (Nat.lt_of_le_of_lt (Nat.zero_le _) hj) ha; omega, fun e => by have h1 := (HM.out.orow.lt _ e.symm).2; have h2 := hl.2 a (Nat.lt_of_le_of_lt (Nat.zero_le _) hj) ha; omega⟩) hown8 hgrow8 hmv8⟩
end Go.Proofs.Ytphdhndljgihmaa
