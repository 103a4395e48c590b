/- Package spell: which instructions, which modules may be said. -/
import Derived.Test.YtmampoakdjjbiaaGreatDoorSpB
namespace Go.Proofs.YtmampoakdjjbiaaGreatDoor
open Go.RowKit Go.Maps
set_option linter.unusedVariables false
set_option linter.unusedSimpArgs false

/-- Two boxes of the call's own. -/
def IS (W : World) (mv iv : List Value) (w : World) : Prop := Box W.heap.size mv w ∧ Box (W.heap.size + 1) iv w ∧ Below W.heap.size W w
theorem IS.later {W w w' : World} {mv iv : List Value} (h : IS W mv iv w) (hb : Below w.heap.size w w') : IS W mv iv w' := ⟨h.1.later hb, h.2.1.later hb, h.2.2.trans (hb.mono h.2.2.size)⟩
theorem IS.new (W : World) (mv iv : List Value) (t u : TypeId) : IS W mv iv ((W.alloc (.cells mv.toArray t)).alloc (.cells iv.toArray u)) :=
  ⟨(Box.new W rfl _ _).alloc _, Box.new (W.alloc (.cells mv.toArray t)) (by simp) _ _, below2 W _ _⟩
theorem opT_some {op : Int} (h : 1 ≤ op ∧ op ≤ 34) : opT op ≠ [] := by
  obtain ⟨k, rfl⟩ : ∃ k : Nat, op = k := ⟨op.toNat, by omega⟩
  have : ∀ j : Fin 35, 1 ≤ j.val → opT (j.val : Int) ≠ [] := by decide
  exact this ⟨k, by omega⟩ (show 1 ≤ k by omega)
theorem opT_none {op : Int} (h : ¬ (1 ≤ op ∧ op ≤ 34)) : opT op = [] := by
  by_cases h0 : op = 0
  · subst h0; rfl
  · exact opT_out (by omega)
set_option maxRecDepth 100000 in
set_option maxHeartbeats 8000000 in
theorem isInstr_any (m : LMod) (x : LI) (W : World) (hO : Ops W) (hm : ModIn W.heap.size W m) (hx : InsIn W.heap.size W x) (hq : modZ (modD m) ≤ 1048576) (hn : -9223372036854775808 ≤ x.1.n) (hn' : x.1.n ≤ 9223372036854775807) :
    Calls Tryz.prog 27 #[.agg (modC m).toArray, .agg (liC x).toArray] W (Ans (.bool (insB (modD m) (insD x))) W) := by
  have hal := hx.1.1
  have htl := hx.2.1
  have hall : insB (modD m) (insD x) = (decide (1 ≤ x.1.op ∧ x.1.op ≤ 34) && cntI x.1.op x.1.al x.1.tl && tyI (modD m) x.1.op x.1.ty x.1.n x.1.al && numI x.1.op x.1.n && flI x.1.op x.1.fl && hasRegI x.1.op x.1.reg && x.2.all tgB && x.1.args.all (argB (modD m))) := by
    rw [hal, htl]
    rfl
  rw [hall]
  clear hall
  have k0 := fun w (hb : Below W.heap.size W w) => Of_any x.1.op w (hO.later hb)
  have k2 := fun w (hb : Below W.heap.size W w) => hasType_any m x w (lasts_Mod _ _ _ _ _ hb hb.size hm) hq hn hn'
  have k6 : ∀ w, Below W.heap.size W w → Calls Tryz.prog 51 #[.slice x.1.tp x.1.tl x.1.tc, .func (.func 62) #[] #[]] w (Ans (.bool (x.2.all tgB)) w) := fun w hb =>
    each_I lasts_NoMem tgB x.1.tp x.1.tl x.1.tc x.2 w (hx.2.lasts lasts_NoMem hb hb.size) _ #[] (fun _ _ => rfl) (fun i hi w' hb' => (isTarget_any x.2[i] w').mono (fun e w2 ⟨h1, h2⟩ => ⟨h1, by rw [h2]; exact Below.refl _ _⟩))
  have k7 : ∀ w, IS W (modC m) (liC x) w → Calls Tryz.prog 63 #[.slice x.1.ap x.1.al x.1.ac, .func (.func 64) #[] #[.pointer (some ⟨W.heap.size, 0, none⟩)]] w (Ans (.bool (x.1.args.all (argB (modD m)))) w) := fun w hS =>
    each_A lasts_NoMem (argB (modD m)) x.1.ap x.1.al x.1.ac x.1.args w (hx.1.lasts lasts_NoMem hS.2.2 hS.2.2.size) 64 #[.pointer (some ⟨W.heap.size, 0, none⟩)] (fun _ _ => rfl) (fun i hi w' hb' => by
      have hv : m.vn = m.vs.length := hm.1.1
      have hS' := hS.later hb'
      have co := fun w => isOperand_any m x.1.args[i] hv w
      obtain ⟨v, ev⟩ : ∃ v, x.1.args[i] = v := ⟨_, rfl⟩
      simp only [ev] at co ⊢
      obtain ⟨q, eq⟩ : ∃ q, argB (modD m) v = q := ⟨_, rfl⟩
      simp only [eq] at co ⊢
      clear eq ev hS hv
      obtain ⟨kd, nn, bt⟩ := v
      obtain ⟨vp, vn, vc, vs, xp, xn, xc, xs, fp, fn, fc, fs⟩ := m
      have y0 := hS'.1.get 0 _ rfl
      have y1 := hS'.1.get 1 _ rfl
      have y2 := hS'.1.get 2 _ rfl
      simp only at y0 y1 y2
      have hlw : W.heap.size < w'.heap.size := hS'.1.1
      have hb1 : Below w'.heap.size w' (w'.alloc (.cells #[.int .i64 kd, .int .i64 nn, .int .u64 bt] 86)) := (Below.refl _ _).alloc (Nat.le_refl _) _
      have HB1 := Lib.hid hb1
      have co2 := co (w'.alloc (.cells #[.int .i64 kd, .int .i64 nn, .int .u64 bt] 86))
      show Calls Tryz.prog 64 #[.agg #[.int .i64 kd, .int .i64 nn, .int .u64 bt], .pointer (some ⟨W.heap.size, 0, none⟩)] w' _
      clear hS' hb1 co k0 k2 k6 hm hx hO hq hn hn' hal htl
      go_enter Tryz.func64, Tryz.ntmps64
      go_wp2_with fail
      refine co2.mono ?_
      rintro e w2 ⟨rfl, hb2⟩
      have HB2 := Lib.hid (HB1.out.trans (hb2.mono HB1.out.size))
      clear co2 hb2
      go_wp2_with fail
      go_ret
      exact ⟨rfl, HB2.out⟩)
  obtain ⟨⟨op, rg, ty, nn, fl, ap, al, ac, tp, tl, tc, rs⟩, ts⟩ := x
  simp only at hal htl k0 k2 k6 k7 ⊢
  have k1 := fun w => hasLists_any op rg ty nn fl ap tp al ac tl tc w
  have k3 := fun w => hasNumber_any op rg ty nn fl ap tp al ac tl tc w
  have k4 := fun w => hasFlags_any op rg ty nn fl ap tp al ac tl tc w
  have k5 := fun w => hasRegister_any op rg ty nn fl ap tp al ac tl tc w
  obtain ⟨D, eD⟩ : ∃ D, modD m = D := ⟨_, rfl⟩
  simp only [eD] at k2 k7 ⊢
  obtain ⟨q0, e0⟩ : ∃ q, decide (1 ≤ op ∧ op ≤ 34) = q := ⟨_, rfl⟩
  obtain ⟨q1, e1⟩ : ∃ q, cntI op al tl = q := ⟨_, rfl⟩
  obtain ⟨q2, e2⟩ : ∃ q, tyI D op ty nn al = q := ⟨_, rfl⟩
  obtain ⟨q3, e3⟩ : ∃ q, numI op nn = q := ⟨_, rfl⟩
  obtain ⟨q4, e4⟩ : ∃ q, flI op fl = q := ⟨_, rfl⟩
  obtain ⟨q5, e5⟩ : ∃ q, hasRegI op rg = q := ⟨_, rfl⟩
  obtain ⟨q6, e6⟩ : ∃ q, ts.all tgB = q := ⟨_, rfl⟩
  obtain ⟨q7, e7⟩ : ∃ q, rs.all (argB D) = q := ⟨_, rfl⟩
  have h0 : (opT op = []) ↔ q0 = false := by
    rw [← e0]
    by_cases h : 1 ≤ op ∧ op ≤ 34
    · simp [opT_some h, h]
    · simp [opT_none h, h]
  simp only [e0, e1, e2, e3, e4, e5, e6, e7] at k1 k2 k3 k4 k5 k6 k7 ⊢
  obtain ⟨s, es⟩ : ∃ s : ByteArray, (⟨(opT op).toArray⟩ : ByteArray) = s := ⟨_, rfl⟩
  have hs : s.toList.isEmpty = !q0 := by
    rw [← es]
    refine empty_iff _ _ ?_
    rw [Bool.eq_iff_iff]
    simp only [decide_eq_true_eq, Bool.not_eq_true']
    rw [← h0]
    show (opT op).toArray.size = 0 ↔ _
    simp
  rw [es] at k0
  obtain ⟨vp, vn, vc, vs, xp, xn, xc, xs, fp, fn, fc, fs⟩ := m
  have hS := IS.new W [.slice vp vn vc, .slice xp xn xc, .slice fp fn fc] [.int .i64 op, .int .i64 rg, .int .i64 ty, .int .i64 nn, .int .i64 fl, .slice ap al ac, .slice tp tl tc] 26 39
  have HS := Lib.hid hS
  have k7 : ∀ w, IS W [.slice vp vn vc, .slice xp xn xc, .slice fp fn fc] [.int .i64 op, .int .i64 rg, .int .i64 ty, .int .i64 nn, .int .i64 fl, .slice ap al ac, .slice tp tl tc] w → Calls Tryz.prog 63 #[.slice ap al ac, .func (.func 64) #[] #[.pointer (some ⟨W.heap.size, 0, none⟩)]] w (Ans (.bool q7) w) := k7
  have k2 : ∀ w, Below W.heap.size W w → Calls Tryz.prog 58 #[.agg #[.slice vp vn vc, .slice xp xn xc, .slice fp fn fc], .agg #[.int .i64 op, .int .i64 rg, .int .i64 ty, .int .i64 nn, .int .i64 fl, .slice ap al ac, .slice tp tl tc]] w (Ans (.bool q2) w) := k2
  have HK := Lib.hid (And.intro k0 (And.intro k1 (And.intro k2 (And.intro k3 (And.intro k4 (And.intro k5 (And.intro k6 k7)))))))
  show Calls Tryz.prog 27 #[.agg #[.slice vp vn vc, .slice xp xn xc, .slice fp fn fc], .agg #[.int .i64 op, .int .i64 rg, .int .i64 ty, .int .i64 nn, .int .i64 fl, .slice ap al ac, .slice tp tl tc]] W _
  clear k0 k1 k2 k3 k4 k5 k6 k7 hm hx hO hq hn hn' hal htl e0 e1 e2 e3 e4 e5 e6 e7 eD es h0 hS
  have c := HK.out.1 _ HS.out.2.2
  go_enter Tryz.func27, Tryz.ntmps27
  go_wp2_with fail
  refine c.mono ?_
  rintro e w0 ⟨rfl, rfl⟩
  clear c
  cases q0
  case false =>
    go_wp2_with fail
    go_ret
    exact ⟨rfl, HS.out.2.2⟩
  obtain ⟨wa, ewa⟩ : ∃ wa, ((W.alloc (.cells #[.slice vp vn vc, .slice xp xn xc, .slice fp fn fc] 26)).alloc (.cells #[.int .i64 op, .int .i64 rg, .int .i64 ty, .int .i64 nn, .int .i64 fl, .slice ap al ac, .slice tp tl tc] 39)) = wa := ⟨_, rfl⟩
  have HS : Hid (IS W [.slice vp vn vc, .slice xp xn xc, .slice fp fn fc] [.int .i64 op, .int .i64 rg, .int .i64 ty, .int .i64 nn, .int .i64 fl, .slice ap al ac, .slice tp tl tc] wa) := Lib.hid (by rw [← ewa]; exact HS.out)
  rw [ewa]
  clear ewa
  try simp only [Bool.not_true] at hs
  have y0 := HS.out.1.get 0 _ rfl
  have y1 := HS.out.1.get 1 _ rfl
  have y2 := HS.out.1.get 2 _ rfl
  have z0 := HS.out.2.1.get 0 _ rfl
  have z1 := HS.out.2.1.get 1 _ rfl
  have z2 := HS.out.2.1.get 2 _ rfl
  have z3 := HS.out.2.1.get 3 _ rfl
  have z4 := HS.out.2.1.get 4 _ rfl
  have z5 := HS.out.2.1.get 5 _ rfl
  have z6 := HS.out.2.1.get 6 _ rfl
  have c := HK.out.2.1 wa
  try simp only at y0 y1 y2 z0 z1 z2 z3 z4 z5 z6
  go_wp2_with fail
  refine c.mono ?_
  rintro e w1 ⟨rfl, hb⟩
  have HS := Lib.hid (HS.out.later hb)
  clear c hb y0 y1 y2 z0 z1 z2 z3 z4 z5 z6 hs
  cases q1
  case false =>
    go_wp2_with fail
    go_ret
    exact ⟨rfl, HS.out.2.2⟩
  have y0 := HS.out.1.get 0 _ rfl
  have y1 := HS.out.1.get 1 _ rfl
  have y2 := HS.out.1.get 2 _ rfl
  have z0 := HS.out.2.1.get 0 _ rfl
  have z1 := HS.out.2.1.get 1 _ rfl
  have z2 := HS.out.2.1.get 2 _ rfl
  have z3 := HS.out.2.1.get 3 _ rfl
  have z4 := HS.out.2.1.get 4 _ rfl
  have z5 := HS.out.2.1.get 5 _ rfl
  have z6 := HS.out.2.1.get 6 _ rfl
  have c := HK.out.2.2.1 w1 HS.out.2.2
  try simp only at y0 y1 y2 z0 z1 z2 z3 z4 z5 z6
  go_wp2_with fail
  refine c.mono ?_
  rintro e w2 ⟨rfl, hb⟩
  have HS := Lib.hid (HS.out.later hb)
  clear c hb y0 y1 y2 z0 z1 z2 z3 z4 z5 z6
  cases q2
  case false =>
    go_wp2_with fail
    go_ret
    exact ⟨rfl, HS.out.2.2⟩
  have y0 := HS.out.1.get 0 _ rfl
  have y1 := HS.out.1.get 1 _ rfl
  have y2 := HS.out.1.get 2 _ rfl
  have z0 := HS.out.2.1.get 0 _ rfl
  have z1 := HS.out.2.1.get 1 _ rfl
  have z2 := HS.out.2.1.get 2 _ rfl
  have z3 := HS.out.2.1.get 3 _ rfl
  have z4 := HS.out.2.1.get 4 _ rfl
  have z5 := HS.out.2.1.get 5 _ rfl
  have z6 := HS.out.2.1.get 6 _ rfl
  have c := HK.out.2.2.2.1 w2
  try simp only at y0 y1 y2 z0 z1 z2 z3 z4 z5 z6
  go_wp2_with fail
  refine c.mono ?_
  rintro e w3 ⟨rfl, hb⟩
  have HS := Lib.hid (HS.out.later hb)
  clear c hb y0 y1 y2 z0 z1 z2 z3 z4 z5 z6
  cases q3
  case false =>
    go_wp2_with fail
    go_ret
    exact ⟨rfl, HS.out.2.2⟩
  have y0 := HS.out.1.get 0 _ rfl
  have y1 := HS.out.1.get 1 _ rfl
  have y2 := HS.out.1.get 2 _ rfl
  have z0 := HS.out.2.1.get 0 _ rfl
  have z1 := HS.out.2.1.get 1 _ rfl
  have z2 := HS.out.2.1.get 2 _ rfl
  have z3 := HS.out.2.1.get 3 _ rfl
  have z4 := HS.out.2.1.get 4 _ rfl
  have z5 := HS.out.2.1.get 5 _ rfl
  have z6 := HS.out.2.1.get 6 _ rfl
  have c := HK.out.2.2.2.2.1 w3
  try simp only at y0 y1 y2 z0 z1 z2 z3 z4 z5 z6
  go_wp2_with fail
  refine c.mono ?_
  rintro e w4 ⟨rfl, hb⟩
  have HS := Lib.hid (HS.out.later hb)
  clear c hb y0 y1 y2 z0 z1 z2 z3 z4 z5 z6
  cases q4
  case false =>
    go_wp2_with fail
    go_ret
    exact ⟨rfl, HS.out.2.2⟩
  have y0 := HS.out.1.get 0 _ rfl
  have y1 := HS.out.1.get 1 _ rfl
  have y2 := HS.out.1.get 2 _ rfl
  have z0 := HS.out.2.1.get 0 _ rfl
  have z1 := HS.out.2.1.get 1 _ rfl
  have z2 := HS.out.2.1.get 2 _ rfl
  have z3 := HS.out.2.1.get 3 _ rfl
  have z4 := HS.out.2.1.get 4 _ rfl
  have z5 := HS.out.2.1.get 5 _ rfl
  have z6 := HS.out.2.1.get 6 _ rfl
  have c := HK.out.2.2.2.2.2.1 w4
  try simp only at y0 y1 y2 z0 z1 z2 z3 z4 z5 z6
  go_wp2_with fail
  refine c.mono ?_
  rintro e w5 ⟨rfl, hb⟩
  have HS := Lib.hid (HS.out.later hb)
  clear c hb y0 y1 y2 z0 z1 z2 z3 z4 z5 z6
  cases q5
  case false =>
    go_wp2_with fail
    go_ret
    exact ⟨rfl, HS.out.2.2⟩
  have y0 := HS.out.1.get 0 _ rfl
  have y1 := HS.out.1.get 1 _ rfl
  have y2 := HS.out.1.get 2 _ rfl
  have z0 := HS.out.2.1.get 0 _ rfl
  have z1 := HS.out.2.1.get 1 _ rfl
  have z2 := HS.out.2.1.get 2 _ rfl
  have z3 := HS.out.2.1.get 3 _ rfl
  have z4 := HS.out.2.1.get 4 _ rfl
  have z5 := HS.out.2.1.get 5 _ rfl
  have z6 := HS.out.2.1.get 6 _ rfl
  have c := HK.out.2.2.2.2.2.2.1 w5 HS.out.2.2
  try simp only at y0 y1 y2 z0 z1 z2 z3 z4 z5 z6
  go_wp2_with fail
  refine c.mono ?_
  rintro e w6 ⟨rfl, hb⟩
  have HS := Lib.hid (HS.out.later hb)
  clear c hb y0 y1 y2 z0 z1 z2 z3 z4 z5 z6
  cases q6
  case false =>
    go_wp2_with fail
    go_ret
    exact ⟨rfl, HS.out.2.2⟩
  have y0 := HS.out.1.get 0 _ rfl
  have y1 := HS.out.1.get 1 _ rfl
  have y2 := HS.out.1.get 2 _ rfl
  have z0 := HS.out.2.1.get 0 _ rfl
  have z1 := HS.out.2.1.get 1 _ rfl
  have z2 := HS.out.2.1.get 2 _ rfl
  have z3 := HS.out.2.1.get 3 _ rfl
  have z4 := HS.out.2.1.get 4 _ rfl
  have z5 := HS.out.2.1.get 5 _ rfl
  have z6 := HS.out.2.1.get 6 _ rfl
  have c := HK.out.2.2.2.2.2.2.2 w6 HS.out
  try simp only at y0 y1 y2 z0 z1 z2 z3 z4 z5 z6
  go_wp2_with fail
  refine c.mono ?_
  rintro e w7 ⟨rfl, hb⟩
  have HS := Lib.hid (HS.out.later hb)
  clear c hb y0 y1 y2 z0 z1 z2 z3 z4 z5 z6
  cases q7
  all_goals
    go_wp2_with fail
    go_ret
    exact ⟨rfl, HS.out.2.2⟩
end Go.Proofs.YtmampoakdjjbiaaGreatDoor
