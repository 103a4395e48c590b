/- RefineOrders: the walk. -/
import Derived.Test.YtglkbnckfkliaaaRfL
namespace Go.Proofs.Ytglkbnckfkliaaa
open Go.RowKit Go.Maps
set_option linter.unusedVariables false
set_option linter.unusedSimpArgs false
set_option maxRecDepth 100000
set_option maxHeartbeats 4000000

theorem refineOrders_walk (u v w : Vl) (a b c : By) (o : LOut) (W : World) (hx : OutIn W.heap.size W o) (zx : zS o.evs + zL o.vars ≤ 4194304) :
    Calls Try.prog 4 #[u.val, v.val, w.val, a.val, b.val, c.val, o.val] W fun e w' => e = .returned (.bool true) ∧ Below W.heap.size W w' := by
  have c0 := fun w => lives_any w
  have m1 : ∀ w, Past W.heap.size W w → Calls Try.prog 7 #[o.val] w (SomeB w) := fun w hp => much_any o w (past_lasts lasts_Out hx hp) zx
  have duu := fun W => Value_any u u W
  have duv := fun W => Value_any u v W
  have dvw := fun W => Value_any v w W
  have duw := fun W => Value_any u w W
  have daa := fun W => Byte_any a a W
  have dab := fun W => Byte_any a b W
  have dbc := fun W => Byte_any b c W
  have dac := fun W => Byte_any a c W
  have doo : ∀ w, Past W.heap.size W w → Calls Try.prog 12 #[o.val, o.val] w fun e w' => e = .returned (.bool (refO o o)) ∧ Below w.heap.size w w' := fun w hp => Refines_any o o w (past_lasts lasts_Out hx hp) (past_lasts lasts_Out hx hp)
  have tV := @refV_trans u v w
  have tY := @refY_trans a b c
  rw [refV_self] at duu
  rw [refY_self] at daa
  rw [refO_self] at doo
  clear hx zx
  generalize refV u v = z1 at duv tV
  generalize refV v w = z2 at dvw tV
  generalize refV u w = z3 at duw tV
  generalize refY a b = y1 at dab tY
  generalize refY b c = y2 at dbc tY
  generalize refY a c = y3 at dac tY
  obtain ⟨uk, ub, ubk, uo⟩ := u
  obtain ⟨vk, vb, vbk, vo⟩ := v
  obtain ⟨wk, wb, wbk, wo⟩ := w
  obtain ⟨ak, ab, abk, ao, ai⟩ := a
  obtain ⟨bk, bb, bbk, bo, bi⟩ := b
  obtain ⟨ck, cb, cbk, co, ci⟩ := c
  obtain ⟨os, ⟨ork, orb, orbk, oro⟩, oep, oen, oec, oevs, ovp, ovn, ovc, ovars, osteps⟩ := o
  have m1 : ∀ w, Past W.heap.size W w → Calls Try.prog 7 #[.agg #[.int .i64 os, .int .i64 ork, .int .u64 orb, .int .i64 orbk, .int .i64 oro, .slice oep oen oec, .slice ovp ovn ovc, .int .i64 osteps]] w (SomeB w) := m1
  have doo : ∀ w, Past W.heap.size W w → Calls Try.prog 12 #[.agg #[.int .i64 os, .int .i64 ork, .int .u64 orb, .int .i64 orbk, .int .i64 oro, .slice oep oen oec, .slice ovp ovn ovc, .int .i64 osteps], .agg #[.int .i64 os, .int .i64 ork, .int .u64 orb, .int .i64 orbk, .int .i64 oro, .slice oep oen oec, .slice ovp ovn ovc, .int .i64 osteps]] w fun e w' => e = .returned (.bool true) ∧ Below w.heap.size w w' := doo
  have duu : ∀ w, Calls Try.prog 8 #[.agg #[.int .i64 uk, .int .u64 ub, .int .i64 ubk, .int .i64 uo], .agg #[.int .i64 uk, .int .u64 ub, .int .i64 ubk, .int .i64 uo]] w fun e w' => e = .returned (.bool true) ∧ Below w.heap.size w w' := duu
  have duv : ∀ w, Calls Try.prog 8 #[.agg #[.int .i64 uk, .int .u64 ub, .int .i64 ubk, .int .i64 uo], .agg #[.int .i64 vk, .int .u64 vb, .int .i64 vbk, .int .i64 vo]] w fun e w' => e = .returned (.bool z1) ∧ Below w.heap.size w w' := duv
  have dvw : ∀ w, Calls Try.prog 8 #[.agg #[.int .i64 vk, .int .u64 vb, .int .i64 vbk, .int .i64 vo], .agg #[.int .i64 wk, .int .u64 wb, .int .i64 wbk, .int .i64 wo]] w fun e w' => e = .returned (.bool z2) ∧ Below w.heap.size w w' := dvw
  have duw : ∀ w, Calls Try.prog 8 #[.agg #[.int .i64 uk, .int .u64 ub, .int .i64 ubk, .int .i64 uo], .agg #[.int .i64 wk, .int .u64 wb, .int .i64 wbk, .int .i64 wo]] w fun e w' => e = .returned (.bool z3) ∧ Below w.heap.size w w' := duw
  have daa : ∀ w, Calls Try.prog 10 #[.agg #[.int .i64 ak, .int .u8 ab, .int .i64 abk, .int .i64 ao, .int .i64 ai], .agg #[.int .i64 ak, .int .u8 ab, .int .i64 abk, .int .i64 ao, .int .i64 ai]] w fun e w' => e = .returned (.bool true) ∧ Below w.heap.size w w' := daa
  have dab : ∀ w, Calls Try.prog 10 #[.agg #[.int .i64 ak, .int .u8 ab, .int .i64 abk, .int .i64 ao, .int .i64 ai], .agg #[.int .i64 bk, .int .u8 bb, .int .i64 bbk, .int .i64 bo, .int .i64 bi]] w fun e w' => e = .returned (.bool y1) ∧ Below w.heap.size w w' := dab
  have dbc : ∀ w, Calls Try.prog 10 #[.agg #[.int .i64 bk, .int .u8 bb, .int .i64 bbk, .int .i64 bo, .int .i64 bi], .agg #[.int .i64 ck, .int .u8 cb, .int .i64 cbk, .int .i64 co, .int .i64 ci]] w fun e w' => e = .returned (.bool y2) ∧ Below w.heap.size w w' := dbc
  have dac : ∀ w, Calls Try.prog 10 #[.agg #[.int .i64 ak, .int .u8 ab, .int .i64 abk, .int .i64 ao, .int .i64 ai], .agg #[.int .i64 ck, .int .u8 cb, .int .i64 cbk, .int .i64 co, .int .i64 ci]] w fun e w' => e = .returned (.bool y3) ∧ Below w.heap.size w w' := dac
  have F := ((((((((Fr.start W).push (g := W.heap.size) (by simp) [.int .i64 uk, .int .u64 ub, .int .i64 ubk, .int .i64 uo] 24).push (g := W.heap.size + 1) (by simp) [.int .i64 vk, .int .u64 vb, .int .i64 vbk, .int .i64 vo] 24).push (g := W.heap.size + 1 + 1) (by simp) [.int .i64 wk, .int .u64 wb, .int .i64 wbk, .int .i64 wo] 24).push (g := W.heap.size + 1 + 1 + 1) (by simp) [.int .i64 ak, .int .u8 ab, .int .i64 abk, .int .i64 ao, .int .i64 ai] 26).push (g := W.heap.size + 1 + 1 + 1 + 1) (by simp) [.int .i64 bk, .int .u8 bb, .int .i64 bbk, .int .i64 bo, .int .i64 bi] 26).push (g := W.heap.size + 1 + 1 + 1 + 1 + 1) (by simp) [.int .i64 ck, .int .u8 cb, .int .i64 cbk, .int .i64 co, .int .i64 ci] 26).push (g := W.heap.size + 1 + 1 + 1 + 1 + 1 + 1) (by simp) [.int .i64 os, .int .i64 ork, .int .u64 orb, .int .i64 orbk, .int .i64 oro, .slice oep oen oec, .slice ovp ovn ovc, .int .i64 osteps] 30)
  have HF := Lib.hid F
  clear F
  show Calls _ _ #[.agg #[.int .i64 uk, .int .u64 ub, .int .i64 ubk, .int .i64 uo], .agg #[.int .i64 vk, .int .u64 vb, .int .i64 vbk, .int .i64 vo], .agg #[.int .i64 wk, .int .u64 wb, .int .i64 wbk, .int .i64 wo], .agg #[.int .i64 ak, .int .u8 ab, .int .i64 abk, .int .i64 ao, .int .i64 ai], .agg #[.int .i64 bk, .int .u8 bb, .int .i64 bbk, .int .i64 bo, .int .i64 bi], .agg #[.int .i64 ck, .int .u8 cb, .int .i64 cbk, .int .i64 co, .int .i64 ci], .agg #[.int .i64 os, .int .i64 ork, .int .u64 orb, .int .i64 orbk, .int .i64 oro, .slice oep oen oec, .slice ovp ovn ovc, .int .i64 osteps]] W _
  have hz : z1 = false ∨ (z1 = true ∧ z2 = false) ∨ (z1 = true ∧ z2 = true ∧ z3 = true) := by
    cases z1 <;> cases z2 <;> simp_all
  have hy : y1 = false ∨ (y1 = true ∧ y2 = false) ∨ (y1 = true ∧ y2 = true ∧ y3 = true) := by
    cases y1 <;> cases y2 <;> simp_all
  clear tV tY
  rcases hz with rfl | ⟨rfl, rfl⟩ | ⟨rfl, rfl, rfl⟩
  all_goals
    rcases hy with rfl | ⟨rfl, rfl⟩ | ⟨rfl, rfl, rfl⟩
  all_goals
    go_enter Try.func4, Try.ntmps4
    go_wp2_with (first
      | ((with_reducible refine (c0 _).mono ?_); rintro e w1 ⟨rfl, hb⟩; have F := HF.out.later hb; obtain ⟨x0_0, x0_1, x0_2, x0_3, xf0⟩ := F.c4 6 rfl; obtain ⟨x1_0, x1_1, x1_2, x1_3, xf1⟩ := F.c4 5 rfl; obtain ⟨x2_0, x2_1, x2_2, x2_3, xf2⟩ := F.c4 4 rfl; obtain ⟨x3_0, x3_1, x3_2, x3_3, x3_4⟩ := F.c5 3 rfl; obtain ⟨x4_0, x4_1, x4_2, x4_3, x4_4⟩ := F.c5 2 rfl; obtain ⟨x5_0, x5_1, x5_2, x5_3, x5_4⟩ := F.c5 1 rfl; obtain ⟨x6_0, x6_1, x6_2, x6_3, x6_4, x6_5, x6_6, x6_7⟩ := F.c8 0 rfl; have m3 := m1 w1 F.past; replace HF := Lib.hid F; clear F hb)
      | ((with_reducible refine m3.mono ?_); rintro e w2 ⟨b1, rfl, hb⟩; have F := HF.out.later hb; clear x0_0 x0_1 x0_2 x0_3 x1_0 x1_1 x1_2 x1_3 x2_0 x2_1 x2_2 x2_3 x3_0 x3_1 x3_2 x3_3 x3_4 x4_0 x4_1 x4_2 x4_3 x4_4 x5_0 x5_1 x5_2 x5_3 x5_4 x6_0 x6_1 x6_2 x6_3 x6_4 x6_5 x6_6 x6_7 xf0 xf1 xf2; obtain ⟨x0_0, x0_1, x0_2, x0_3, xf0⟩ := F.c4 6 rfl; obtain ⟨x1_0, x1_1, x1_2, x1_3, xf1⟩ := F.c4 5 rfl; obtain ⟨x2_0, x2_1, x2_2, x2_3, xf2⟩ := F.c4 4 rfl; obtain ⟨x3_0, x3_1, x3_2, x3_3, x3_4⟩ := F.c5 3 rfl; obtain ⟨x4_0, x4_1, x4_2, x4_3, x4_4⟩ := F.c5 2 rfl; obtain ⟨x5_0, x5_1, x5_2, x5_3, x5_4⟩ := F.c5 1 rfl; obtain ⟨x6_0, x6_1, x6_2, x6_3, x6_4, x6_5, x6_6, x6_7⟩ := F.c8 0 rfl; have doo2 := doo; replace HF := Lib.hid F; clear F hb; cases b1)
      | ((with_reducible refine (duu _).mono ?_); rintro e wz ⟨rfl, hb⟩; have F := HF.out.later hb; clear x0_0 x0_1 x0_2 x0_3 x1_0 x1_1 x1_2 x1_3 x2_0 x2_1 x2_2 x2_3 x3_0 x3_1 x3_2 x3_3 x3_4 x4_0 x4_1 x4_2 x4_3 x4_4 x5_0 x5_1 x5_2 x5_3 x5_4 x6_0 x6_1 x6_2 x6_3 x6_4 x6_5 x6_6 x6_7 xf0 xf1 xf2; obtain ⟨x0_0, x0_1, x0_2, x0_3, xf0⟩ := F.c4 6 rfl; obtain ⟨x1_0, x1_1, x1_2, x1_3, xf1⟩ := F.c4 5 rfl; obtain ⟨x2_0, x2_1, x2_2, x2_3, xf2⟩ := F.c4 4 rfl; obtain ⟨x3_0, x3_1, x3_2, x3_3, x3_4⟩ := F.c5 3 rfl; obtain ⟨x4_0, x4_1, x4_2, x4_3, x4_4⟩ := F.c5 2 rfl; obtain ⟨x5_0, x5_1, x5_2, x5_3, x5_4⟩ := F.c5 1 rfl; obtain ⟨x6_0, x6_1, x6_2, x6_3, x6_4, x6_5, x6_6, x6_7⟩ := F.c8 0 rfl; replace HF := Lib.hid F; clear F hb)
      | ((with_reducible refine (duv _).mono ?_); rintro e wz ⟨rfl, hb⟩; have F := HF.out.later hb; clear x0_0 x0_1 x0_2 x0_3 x1_0 x1_1 x1_2 x1_3 x2_0 x2_1 x2_2 x2_3 x3_0 x3_1 x3_2 x3_3 x3_4 x4_0 x4_1 x4_2 x4_3 x4_4 x5_0 x5_1 x5_2 x5_3 x5_4 x6_0 x6_1 x6_2 x6_3 x6_4 x6_5 x6_6 x6_7 xf0 xf1 xf2; obtain ⟨x0_0, x0_1, x0_2, x0_3, xf0⟩ := F.c4 6 rfl; obtain ⟨x1_0, x1_1, x1_2, x1_3, xf1⟩ := F.c4 5 rfl; obtain ⟨x2_0, x2_1, x2_2, x2_3, xf2⟩ := F.c4 4 rfl; obtain ⟨x3_0, x3_1, x3_2, x3_3, x3_4⟩ := F.c5 3 rfl; obtain ⟨x4_0, x4_1, x4_2, x4_3, x4_4⟩ := F.c5 2 rfl; obtain ⟨x5_0, x5_1, x5_2, x5_3, x5_4⟩ := F.c5 1 rfl; obtain ⟨x6_0, x6_1, x6_2, x6_3, x6_4, x6_5, x6_6, x6_7⟩ := F.c8 0 rfl; replace HF := Lib.hid F; clear F hb)
      | ((with_reducible refine (dvw _).mono ?_); rintro e wz ⟨rfl, hb⟩; have F := HF.out.later hb; clear x0_0 x0_1 x0_2 x0_3 x1_0 x1_1 x1_2 x1_3 x2_0 x2_1 x2_2 x2_3 x3_0 x3_1 x3_2 x3_3 x3_4 x4_0 x4_1 x4_2 x4_3 x4_4 x5_0 x5_1 x5_2 x5_3 x5_4 x6_0 x6_1 x6_2 x6_3 x6_4 x6_5 x6_6 x6_7 xf0 xf1 xf2; obtain ⟨x0_0, x0_1, x0_2, x0_3, xf0⟩ := F.c4 6 rfl; obtain ⟨x1_0, x1_1, x1_2, x1_3, xf1⟩ := F.c4 5 rfl; obtain ⟨x2_0, x2_1, x2_2, x2_3, xf2⟩ := F.c4 4 rfl; obtain ⟨x3_0, x3_1, x3_2, x3_3, x3_4⟩ := F.c5 3 rfl; obtain ⟨x4_0, x4_1, x4_2, x4_3, x4_4⟩ := F.c5 2 rfl; obtain ⟨x5_0, x5_1, x5_2, x5_3, x5_4⟩ := F.c5 1 rfl; obtain ⟨x6_0, x6_1, x6_2, x6_3, x6_4, x6_5, x6_6, x6_7⟩ := F.c8 0 rfl; replace HF := Lib.hid F; clear F hb)
      | ((with_reducible refine (duw _).mono ?_); rintro e wz ⟨rfl, hb⟩; have F := HF.out.later hb; clear x0_0 x0_1 x0_2 x0_3 x1_0 x1_1 x1_2 x1_3 x2_0 x2_1 x2_2 x2_3 x3_0 x3_1 x3_2 x3_3 x3_4 x4_0 x4_1 x4_2 x4_3 x4_4 x5_0 x5_1 x5_2 x5_3 x5_4 x6_0 x6_1 x6_2 x6_3 x6_4 x6_5 x6_6 x6_7 xf0 xf1 xf2; obtain ⟨x0_0, x0_1, x0_2, x0_3, xf0⟩ := F.c4 6 rfl; obtain ⟨x1_0, x1_1, x1_2, x1_3, xf1⟩ := F.c4 5 rfl; obtain ⟨x2_0, x2_1, x2_2, x2_3, xf2⟩ := F.c4 4 rfl; obtain ⟨x3_0, x3_1, x3_2, x3_3, x3_4⟩ := F.c5 3 rfl; obtain ⟨x4_0, x4_1, x4_2, x4_3, x4_4⟩ := F.c5 2 rfl; obtain ⟨x5_0, x5_1, x5_2, x5_3, x5_4⟩ := F.c5 1 rfl; obtain ⟨x6_0, x6_1, x6_2, x6_3, x6_4, x6_5, x6_6, x6_7⟩ := F.c8 0 rfl; replace HF := Lib.hid F; clear F hb)
      | ((with_reducible refine (daa _).mono ?_); rintro e wz ⟨rfl, hb⟩; have F := HF.out.later hb; clear x0_0 x0_1 x0_2 x0_3 x1_0 x1_1 x1_2 x1_3 x2_0 x2_1 x2_2 x2_3 x3_0 x3_1 x3_2 x3_3 x3_4 x4_0 x4_1 x4_2 x4_3 x4_4 x5_0 x5_1 x5_2 x5_3 x5_4 x6_0 x6_1 x6_2 x6_3 x6_4 x6_5 x6_6 x6_7 xf0 xf1 xf2; obtain ⟨x0_0, x0_1, x0_2, x0_3, xf0⟩ := F.c4 6 rfl; obtain ⟨x1_0, x1_1, x1_2, x1_3, xf1⟩ := F.c4 5 rfl; obtain ⟨x2_0, x2_1, x2_2, x2_3, xf2⟩ := F.c4 4 rfl; obtain ⟨x3_0, x3_1, x3_2, x3_3, x3_4⟩ := F.c5 3 rfl; obtain ⟨x4_0, x4_1, x4_2, x4_3, x4_4⟩ := F.c5 2 rfl; obtain ⟨x5_0, x5_1, x5_2, x5_3, x5_4⟩ := F.c5 1 rfl; obtain ⟨x6_0, x6_1, x6_2, x6_3, x6_4, x6_5, x6_6, x6_7⟩ := F.c8 0 rfl; have do3 := doo wz F.past; replace HF := Lib.hid F; clear F hb)
      | ((with_reducible refine (dab _).mono ?_); rintro e wz ⟨rfl, hb⟩; have F := HF.out.later hb; clear x0_0 x0_1 x0_2 x0_3 x1_0 x1_1 x1_2 x1_3 x2_0 x2_1 x2_2 x2_3 x3_0 x3_1 x3_2 x3_3 x3_4 x4_0 x4_1 x4_2 x4_3 x4_4 x5_0 x5_1 x5_2 x5_3 x5_4 x6_0 x6_1 x6_2 x6_3 x6_4 x6_5 x6_6 x6_7 xf0 xf1 xf2; obtain ⟨x0_0, x0_1, x0_2, x0_3, xf0⟩ := F.c4 6 rfl; obtain ⟨x1_0, x1_1, x1_2, x1_3, xf1⟩ := F.c4 5 rfl; obtain ⟨x2_0, x2_1, x2_2, x2_3, xf2⟩ := F.c4 4 rfl; obtain ⟨x3_0, x3_1, x3_2, x3_3, x3_4⟩ := F.c5 3 rfl; obtain ⟨x4_0, x4_1, x4_2, x4_3, x4_4⟩ := F.c5 2 rfl; obtain ⟨x5_0, x5_1, x5_2, x5_3, x5_4⟩ := F.c5 1 rfl; obtain ⟨x6_0, x6_1, x6_2, x6_3, x6_4, x6_5, x6_6, x6_7⟩ := F.c8 0 rfl; replace HF := Lib.hid F; clear F hb)
      | ((with_reducible refine (dbc _).mono ?_); rintro e wz ⟨rfl, hb⟩; have F := HF.out.later hb; clear x0_0 x0_1 x0_2 x0_3 x1_0 x1_1 x1_2 x1_3 x2_0 x2_1 x2_2 x2_3 x3_0 x3_1 x3_2 x3_3 x3_4 x4_0 x4_1 x4_2 x4_3 x4_4 x5_0 x5_1 x5_2 x5_3 x5_4 x6_0 x6_1 x6_2 x6_3 x6_4 x6_5 x6_6 x6_7 xf0 xf1 xf2; obtain ⟨x0_0, x0_1, x0_2, x0_3, xf0⟩ := F.c4 6 rfl; obtain ⟨x1_0, x1_1, x1_2, x1_3, xf1⟩ := F.c4 5 rfl; obtain ⟨x2_0, x2_1, x2_2, x2_3, xf2⟩ := F.c4 4 rfl; obtain ⟨x3_0, x3_1, x3_2, x3_3, x3_4⟩ := F.c5 3 rfl; obtain ⟨x4_0, x4_1, x4_2, x4_3, x4_4⟩ := F.c5 2 rfl; obtain ⟨x5_0, x5_1, x5_2, x5_3, x5_4⟩ := F.c5 1 rfl; obtain ⟨x6_0, x6_1, x6_2, x6_3, x6_4, x6_5, x6_6, x6_7⟩ := F.c8 0 rfl; replace HF := Lib.hid F; clear F hb)
      | ((with_reducible refine (dac _).mono ?_); rintro e wz ⟨rfl, hb⟩; have F := HF.out.later hb; clear x0_0 x0_1 x0_2 x0_3 x1_0 x1_1 x1_2 x1_3 x2_0 x2_1 x2_2 x2_3 x3_0 x3_1 x3_2 x3_3 x3_4 x4_0 x4_1 x4_2 x4_3 x4_4 x5_0 x5_1 x5_2 x5_3 x5_4 x6_0 x6_1 x6_2 x6_3 x6_4 x6_5 x6_6 x6_7 xf0 xf1 xf2; obtain ⟨x0_0, x0_1, x0_2, x0_3, xf0⟩ := F.c4 6 rfl; obtain ⟨x1_0, x1_1, x1_2, x1_3, xf1⟩ := F.c4 5 rfl; obtain ⟨x2_0, x2_1, x2_2, x2_3, xf2⟩ := F.c4 4 rfl; obtain ⟨x3_0, x3_1, x3_2, x3_3, x3_4⟩ := F.c5 3 rfl; obtain ⟨x4_0, x4_1, x4_2, x4_3, x4_4⟩ := F.c5 2 rfl; obtain ⟨x5_0, x5_1, x5_2, x5_3, x5_4⟩ := F.c5 1 rfl; obtain ⟨x6_0, x6_1, x6_2, x6_3, x6_4, x6_5, x6_6, x6_7⟩ := F.c8 0 rfl; replace HF := Lib.hid F; clear F hb)
      | ((with_reducible refine do3.mono ?_); rintro e wz ⟨rfl, hb⟩; have F := HF.out.later hb; clear x0_0 x0_1 x0_2 x0_3 x1_0 x1_1 x1_2 x1_3 x2_0 x2_1 x2_2 x2_3 x3_0 x3_1 x3_2 x3_3 x3_4 x4_0 x4_1 x4_2 x4_3 x4_4 x5_0 x5_1 x5_2 x5_3 x5_4 x6_0 x6_1 x6_2 x6_3 x6_4 x6_5 x6_6 x6_7 xf0 xf1 xf2; obtain ⟨x0_0, x0_1, x0_2, x0_3, xf0⟩ := F.c4 6 rfl; obtain ⟨x1_0, x1_1, x1_2, x1_3, xf1⟩ := F.c4 5 rfl; obtain ⟨x2_0, x2_1, x2_2, x2_3, xf2⟩ := F.c4 4 rfl; obtain ⟨x3_0, x3_1, x3_2, x3_3, x3_4⟩ := F.c5 3 rfl; obtain ⟨x4_0, x4_1, x4_2, x4_3, x4_4⟩ := F.c5 2 rfl; obtain ⟨x5_0, x5_1, x5_2, x5_3, x5_4⟩ := F.c5 1 rfl; obtain ⟨x6_0, x6_1, x6_2, x6_3, x6_4, x6_5, x6_6, x6_7⟩ := F.c8 0 rfl; replace HF := Lib.hid F; clear F hb))
    all_goals
      go_ret
      exact ⟨rfl, HF.out.1⟩
end Go.Proofs.Ytglkbnckfkliaaa
