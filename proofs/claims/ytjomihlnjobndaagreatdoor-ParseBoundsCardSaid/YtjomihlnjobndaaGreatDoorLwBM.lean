/- ParseBounds: bounded. -/
import Derived.Test.YtjomihlnjobndaaGreatDoorMg19
namespace Go.Proofs.YtjomihlnjobndaaGreatDoor
open Go.RowKit Go.Maps
set_option linter.unusedVariables false
set_option linter.unusedSimpArgs false
set_option maxRecDepth 100000
set_option maxHeartbeats 4000000

theorem lw_b {a b : Int} (h : a ≠ b) : (a == b) = false := by simpa using h
theorem lw_n {a b : Int} (h : a ≠ b) : (a != b) = true := by simpa using h
/-- Two boxes of a call's own: a module's three cells, an instruction's seven. -/
def Bx2 (W : World) (ms xs : List Value) (w : World) : Prop := Past W.heap.size W w ∧ Box W.heap.size ms w ∧ Box (W.heap.size + 1) xs w
theorem Bx2.later {W w w' : World} {ms xs : List Value} (h : Bx2 W ms xs w) (hb : Below w.heap.size w w') : Bx2 W ms xs w' := ⟨⟨Nat.le_refl _, h.1.2.trans (hb.mono h.1.size)⟩, h.2.1.later hb, h.2.2.later hb⟩
theorem Bx2.new (W : World) (ms xs : List Value) (t t' : TypeId) : Bx2 W ms xs ((W.alloc (.cells ms.toArray t)).alloc (.cells xs.toArray t')) :=
  ⟨((Past.refl (Nat.le_refl _)).alloc _).alloc _, (Box.new W rfl ms t).alloc _, Box.new _ (by simp) xs t'⟩
theorem num_of {m : PMod} {x : PIns} (hx : InS m x) (hl : m.fs.length ≤ 8 ∧ m.xs.length ≤ 8) : -100 ≤ x.n ∧ x.n ≤ 100 := by
  by_cases c : x.op = 30
  · have h := hx.cal c
    unfold calR at h
    by_cases c0 : 0 ≤ x.n
    · rw [if_pos c0] at h
      obtain ⟨f, hf, _⟩ := Option.map_eq_some_iff.1 h
      have := (List.getElem?_eq_some_iff.1 hf).1
      omega
    · rw [if_neg c0] at h
      obtain ⟨f, hf, _⟩ := Option.map_eq_some_iff.1 h
      have := (List.getElem?_eq_some_iff.1 hf).1
      omega
  · have h1 := hx.num c
    have h2 := hx.say
    unfold insB at h2
    simp only [Bool.and_eq_true] at h2
    have h3 := h2.1.1.1.1.2
    unfold numB at h3
    by_cases a : 20 ≤ x.op ∧ x.op ≤ 22
    · rw [if_pos a] at h3
      unfold tyB at h3
      have := of_decide_eq_true h3
      omega
    · rw [if_neg a] at h3
      by_cases b : x.op = 26
      · rw [if_pos b] at h3
        have := of_decide_eq_true h3; omega
      · rw [if_neg b, if_neg c] at h3
        have := of_decide_eq_true h3; omega
theorem cal_told {m : PMod} {n t : Int} (h : calR m.xs m.fs n = some t) : (callD m n).1 = true := by
  unfold calR at h
  unfold callD
  split
  · rename_i c
    rw [if_pos c] at h
    obtain ⟨f, hf, _⟩ := Option.map_eq_some_iff.1 h
    rw [hf]
  · rename_i c
    rw [if_neg c] at h
    obtain ⟨f, hf, _⟩ := Option.map_eq_some_iff.1 h
    rw [hf]
theorem bounded_any (m : LMod) (x : LI) (W : World) (hm : ModIn W.heap.size W m) (hx : InsIn W.heap.size W x) (hM : MS (modD m)) (hS : InS (modD m) (insD x)) :
    Calls Tryz.prog 14 #[.agg (modC m).toArray, .agg (liC x).toArray] W fun e w' => e = .returned (.bool true) ∧ Below W.heap.size W w' := by
  have hps : (∀ f ∈ m.fs, f.ps.length ≤ 1048576) ∧ ∀ e ∈ m.xs, e.ps.length ≤ 1048576 :=
    ⟨fun f hf => by have := (hM.fs (fnD f) (List.mem_map_of_mem (f := fnD) hf)).2.1.1; exact Nat.le_trans this (by decide),
     fun f hf => by have := (hM.xs (extD f) (List.mem_map_of_mem (f := extD) hf)).2.1.1; exact Nat.le_trans this (by decide)⟩
  have hnn := num_of hS ⟨hM.fl, hM.xl⟩
  have cC : ∀ w, Past W.heap.size W w → Calls Tryz.prog 32 #[.agg (modC m).toArray, .int .i64 x.1.n] w (PTold m x.1.n w) := fun w hp => Callee_at m x.1.n (by have := hnn.1; show _ ≤ (insD x).n; omega) (by have := hnn.2; show (insD x).n ≤ _; omega) hps w (lasts_Mod _ _ _ _ _ hp.2 hp.size hm)
  have hcal : x.1.op = 30 → (callD (modD m) x.1.n).1 = true := fun h => cal_told (hS.cal h)
  obtain ⟨o1, o2⟩ := hS.op
  obtain ⟨r1, r2⟩ := hS.reg
  obtain ⟨t1, t2⟩ := hS.ty
  have hfl := hS.fl
  have hA := hS.args
  have hT := hS.tg
  have hvl : m.vs.length = m.vn := hm.1.1.symm
  obtain ⟨vp, vn, vc, vs, xp, xn, xc, xs, fp, fn, fc, fs⟩ := m
  obtain ⟨⟨op, reg, ty, n, fl, ap, al, ac, tp, tl, tc, args⟩, tg⟩ := x
  have hi := hx.1
  have ht := hx.2
  obtain rfl : al = args.length := hi.1
  obtain rfl : tl = tg.length := ht.1
  simp only at hvl
  subst hvl
  replace hA : ∀ a ∈ args, arS vs.length a := hA
  replace hT : ∀ t ∈ tg, tgI t := hT
  replace hcal : op = 30 → (callD (modD ⟨vp, vs.length, vc, vs, xp, xn, xc, xs, fp, fn, fc, fs⟩) n).1 = true := hcal
  replace hfl : 13 < op → fl = 0 := hfl
  simp only [insD] at o1 o2 r1 r2 t1 t2
  have k2 := hi.2.1
  have k3 := hi.2.2.1
  have k2' := ht.2.1
  have k3' := ht.2.2.1
  unfold maxLen at k3 k3'
  have HI := Lib.hid hi
  have HT := Lib.hid ht
  have HA := Lib.hid hA
  have HTG := Lib.hid hT
  have HCAL := Lib.hid hcal
  have B0 := Lib.hid (Bx2.new W [.slice vp vs.length vc, .slice xp xn xc, .slice fp fn fc] [.int .i64 op, .int .i64 reg, .int .i64 ty, .int .i64 n, .int .i64 fl, .slice ap args.length ac, .slice tp tg.length tc] 35 53)
  clear hi ht hA hT hcal hx hm hM hS hps hnn
  have q1 : ¬ op < 1 := by omega
  have q2 : ¬ 34 < op := by omega
  have q3 : ¬ reg < -1 := by omega
  have q4 : ¬ 4095 < reg := by omega
  have q5 : ¬ ty < 0 := by omega
  have q6 : ¬ 65 < ty := by omega
  clear o1 o2 r1 r2 t1 t2
  show Calls _ _ #[.agg #[.slice vp vs.length vc, .slice xp xn xc, .slice fp fn fc], .agg #[.int .i64 op, .int .i64 reg, .int .i64 ty, .int .i64 n, .int .i64 fl, .slice ap args.length ac, .slice tp tg.length tc]] W _
  have hop : (op ≤ 13 ∧ ¬ 13 < op) ∨ (13 < op ∧ fl = 0) := by
    by_cases c : 13 < op
    · exact .inr ⟨c, hfl c⟩
    · exact .inl ⟨by omega, c⟩
  clear hfl
  rcases hop with ⟨-, p13⟩ | ⟨p13, rfl⟩
  · go_enter Tryz.func14, Tryz.ntmps14
    go_wp2_with fail
    go_loopw [53] (fun ti wr => ∃ i : Nat, i ≤ args.length ∧ ti = .int .i64 i ∧ Hid (Bx2 W [.slice vp vs.length vc, .slice xp xn xc, .slice fp fn fc] [.int .i64 op, .int .i64 reg, .int .i64 ty, .int .i64 n, .int .i64 fl, .slice ap args.length ac, .slice tp tg.length tc] wr)) (fun ti _ => args.length - (intOf ti).toNat)
    case atStart => exact ⟨0, Nat.zero_le _, rfl, B0⟩
    case round =>
      obtain ⟨i, hi, rfl, hF⟩ := hrel
      have mz := hF.out.2.1.1
      have iz := hF.out.2.2.1
      have m0 := hF.out.2.1.get 0 _ rfl
      have m1 := hF.out.2.1.get 1 _ rfl
      have m2 := hF.out.2.1.get 2 _ rfl
      have i0 := hF.out.2.2.get 0 _ rfl
      have i3 := hF.out.2.2.get 3 _ rfl
      have i6 := hF.out.2.2.get 6 _ rfl
      by_cases hlt : i < args.length
      · obtain ⟨a, ea, ha, c0, c1, c2⟩ := arg_row HI.out i hlt
        have ha2 : (a.add (i * 3)).block < W.heap.size := by rw [add_block]; exact ha
        replace c0 := (hF.out.1.2.cell (p := a.add (i * 3)) ha2).trans c0
        replace c1 := (hF.out.1.2.cell (p := ⟨(a.add (i * 3)).block, (a.add (i * 3)).off + 1, none⟩) ha2).trans c1
        replace c2 := (hF.out.1.2.cell (p := ⟨(a.add (i * 3)).block, (a.add (i * 3)).off + 2, none⟩) ha2).trans c2
        have hS := HA.out _ (List.getElem_mem hlt)
        obtain ⟨⟨kd, an, bt⟩, ex⟩ : ∃ y, args[i] = y := ⟨_, rfl⟩
        rw [ex] at c0 c1 c2 hS
        obtain ⟨⟨s1, s2, s3, s4⟩, s5⟩ := hS
        simp only at c0 c1 c2 s1 s2 s3 s4 s5
        subst ea
        have u1 : ¬ kd < 1 := by omega
        have u2 : ¬ 5 < kd := by omega
        have u3 : ¬ an < 0 := by omega
        clear ex s1 s2 s4 ha
        have HF2 := Lib.hid (hF.out.later ((Below.refl _ _).alloc (Nat.le_refl _) (.cells #[.int .i64 kd, .int .i64 an, .int .u64 bt] 80)))
        by_cases e1 : kd = 1
        · subst e1
          have u4 : ¬ 4095 < an := by have := s3 rfl; omega
          clear s3 s5
          go_wp2_with fail
          exact ⟨⟨i + 1, by omega, by go_num, HF2⟩, by simp [intOf]; omega⟩
        · have v1 := lw_b e1
          by_cases e5 : kd = 5
          · subst e5
            have u4 : ¬ (vs.length : Int) ≤ an := by have := s5 rfl; omega
            clear s3 s5 e1
            go_wp2_with fail
            exact ⟨⟨i + 1, by omega, by go_num, HF2⟩, by simp [intOf]; omega⟩
          · have v5 := lw_b e5
            clear s3 s5 e1 e5
            go_wp2_with fail
            exact ⟨⟨i + 1, by omega, by go_num, HF2⟩, by simp [intOf]; omega⟩
      · go_wp2_with fail
        generalize wr = wo at *
        go_loopw [97] (fun tk wr => ∃ k : Nat, k ≤ tg.length ∧ tk = .int .i64 k ∧ Hid (Bx2 W [.slice vp vs.length vc, .slice xp xn xc, .slice fp fn fc] [.int .i64 op, .int .i64 reg, .int .i64 ty, .int .i64 n, .int .i64 fl, .slice ap args.length ac, .slice tp tg.length tc] wr)) (fun tk _ => tg.length - (intOf tk).toNat)
        case atStart => exact ⟨0, Nat.zero_le _, rfl, hF⟩
        case round =>
          obtain ⟨k, hk, rfl, hF2⟩ := hrel
          clear m0 m1 m2 i0 i3 i6
          have m0 := hF2.out.2.1.get 0 _ rfl
          have m1 := hF2.out.2.1.get 1 _ rfl
          have m2 := hF2.out.2.1.get 2 _ rfl
          have i0 := hF2.out.2.2.get 0 _ rfl
          have i3 := hF2.out.2.2.get 3 _ rfl
          by_cases klt : k < tg.length
          · obtain ⟨a, ea, ha, c0⟩ := int_row HT.out k klt
            replace c0 := (hF2.out.1.2.cell (p := a.add k) (by rw [add_block]; exact ha)).trans c0
            have hS := HTG.out _ (List.getElem_mem klt)
            obtain ⟨y, ex⟩ : ∃ y, tg[k] = y := ⟨_, rfl⟩
            rw [ex] at c0 hS
            subst ea
            have u1 : ¬ y < 0 := by have := hS.1; omega
            have u2 : ¬ 999 < y := by have := hS.2; omega
            clear ex hS ha
            go_wp2_with fail
            exact ⟨⟨k + 1, by omega, by go_num, hF2⟩, by simp [intOf]; omega⟩
          · have c3 := cC wr hF2.out.1
            have c3 : Calls Tryz.prog 32 #[.agg #[.slice vp vs.length vc, .slice xp xn xc, .slice fp fn fc], .int .i64 n] wr (PTold ⟨vp, vs.length, vc, vs, xp, xn, xc, xs, fp, fn, fc, fs⟩ n wr) := c3
            by_cases e30 : op = 30
            · exfalso; omega
            · have v30 := lw_n e30
              clear e30
              go_wp2_with ((with_reducible refine c3.mono ?_); rintro e w5 ⟨p5, k5, c5, ps5, t5, b5, rfl, hd5, hp5, -⟩; have HF5 := Lib.hid (hF2.out.later hp5.2); have i0 := HF5.out.2.2.get 0 _ rfl; clear hd5 hp5)
              go_ret
              exact ⟨rfl, HF5.out.1.2⟩
  · go_enter Tryz.func14, Tryz.ntmps14
    go_wp2_with fail
    go_loopw [53] (fun ti wr => ∃ i : Nat, i ≤ args.length ∧ ti = .int .i64 i ∧ Hid (Bx2 W [.slice vp vs.length vc, .slice xp xn xc, .slice fp fn fc] [.int .i64 op, .int .i64 reg, .int .i64 ty, .int .i64 n, .int .i64 0, .slice ap args.length ac, .slice tp tg.length tc] wr)) (fun ti _ => args.length - (intOf ti).toNat)
    case atStart => exact ⟨0, Nat.zero_le _, rfl, B0⟩
    case round =>
      obtain ⟨i, hi, rfl, hF⟩ := hrel
      have mz := hF.out.2.1.1
      have iz := hF.out.2.2.1
      have m0 := hF.out.2.1.get 0 _ rfl
      have m1 := hF.out.2.1.get 1 _ rfl
      have m2 := hF.out.2.1.get 2 _ rfl
      have i0 := hF.out.2.2.get 0 _ rfl
      have i3 := hF.out.2.2.get 3 _ rfl
      have i6 := hF.out.2.2.get 6 _ rfl
      by_cases hlt : i < args.length
      · obtain ⟨a, ea, ha, c0, c1, c2⟩ := arg_row HI.out i hlt
        have ha2 : (a.add (i * 3)).block < W.heap.size := by rw [add_block]; exact ha
        replace c0 := (hF.out.1.2.cell (p := a.add (i * 3)) ha2).trans c0
        replace c1 := (hF.out.1.2.cell (p := ⟨(a.add (i * 3)).block, (a.add (i * 3)).off + 1, none⟩) ha2).trans c1
        replace c2 := (hF.out.1.2.cell (p := ⟨(a.add (i * 3)).block, (a.add (i * 3)).off + 2, none⟩) ha2).trans c2
        have hS := HA.out _ (List.getElem_mem hlt)
        obtain ⟨⟨kd, an, bt⟩, ex⟩ : ∃ y, args[i] = y := ⟨_, rfl⟩
        rw [ex] at c0 c1 c2 hS
        obtain ⟨⟨s1, s2, s3, s4⟩, s5⟩ := hS
        simp only at c0 c1 c2 s1 s2 s3 s4 s5
        subst ea
        have u1 : ¬ kd < 1 := by omega
        have u2 : ¬ 5 < kd := by omega
        have u3 : ¬ an < 0 := by omega
        clear ex s1 s2 s4 ha
        have HF2 := Lib.hid (hF.out.later ((Below.refl _ _).alloc (Nat.le_refl _) (.cells #[.int .i64 kd, .int .i64 an, .int .u64 bt] 80)))
        by_cases e1 : kd = 1
        · subst e1
          have u4 : ¬ 4095 < an := by have := s3 rfl; omega
          clear s3 s5
          go_wp2_with fail
          exact ⟨⟨i + 1, by omega, by go_num, HF2⟩, by simp [intOf]; omega⟩
        · have v1 := lw_b e1
          by_cases e5 : kd = 5
          · subst e5
            have u4 : ¬ (vs.length : Int) ≤ an := by have := s5 rfl; omega
            clear s3 s5 e1
            go_wp2_with fail
            exact ⟨⟨i + 1, by omega, by go_num, HF2⟩, by simp [intOf]; omega⟩
          · have v5 := lw_b e5
            clear s3 s5 e1 e5
            go_wp2_with fail
            exact ⟨⟨i + 1, by omega, by go_num, HF2⟩, by simp [intOf]; omega⟩
      · go_wp2_with fail
        generalize wr = wo at *
        go_loopw [97] (fun tk wr => ∃ k : Nat, k ≤ tg.length ∧ tk = .int .i64 k ∧ Hid (Bx2 W [.slice vp vs.length vc, .slice xp xn xc, .slice fp fn fc] [.int .i64 op, .int .i64 reg, .int .i64 ty, .int .i64 n, .int .i64 0, .slice ap args.length ac, .slice tp tg.length tc] wr)) (fun tk _ => tg.length - (intOf tk).toNat)
        case atStart => exact ⟨0, Nat.zero_le _, rfl, hF⟩
        case round =>
          obtain ⟨k, hk, rfl, hF2⟩ := hrel
          clear m0 m1 m2 i0 i3 i6
          have m0 := hF2.out.2.1.get 0 _ rfl
          have m1 := hF2.out.2.1.get 1 _ rfl
          have m2 := hF2.out.2.1.get 2 _ rfl
          have i0 := hF2.out.2.2.get 0 _ rfl
          have i3 := hF2.out.2.2.get 3 _ rfl
          by_cases klt : k < tg.length
          · obtain ⟨a, ea, ha, c0⟩ := int_row HT.out k klt
            replace c0 := (hF2.out.1.2.cell (p := a.add k) (by rw [add_block]; exact ha)).trans c0
            have hS := HTG.out _ (List.getElem_mem klt)
            obtain ⟨y, ex⟩ : ∃ y, tg[k] = y := ⟨_, rfl⟩
            rw [ex] at c0 hS
            subst ea
            have u1 : ¬ y < 0 := by have := hS.1; omega
            have u2 : ¬ 999 < y := by have := hS.2; omega
            clear ex hS ha
            go_wp2_with fail
            exact ⟨⟨k + 1, by omega, by go_num, hF2⟩, by simp [intOf]; omega⟩
          · have c3 := cC wr hF2.out.1
            have c3 : Calls Tryz.prog 32 #[.agg #[.slice vp vs.length vc, .slice xp xn xc, .slice fp fn fc], .int .i64 n] wr (PTold ⟨vp, vs.length, vc, vs, xp, xn, xc, xs, fp, fn, fc, fs⟩ n wr) := c3
            by_cases e30 : op = 30
            · have hc := HCAL.out e30
              go_wp2_with ((with_reducible refine c3.mono ?_); rintro e w5 ⟨p5, k5, c5, ps5, t5, b5, rfl, hd5, hp5, -⟩; rw [hd5] at hc; simp only at hc; subst hc; have HF5 := Lib.hid (hF2.out.later hp5.2); have i0 := HF5.out.2.2.get 0 _ rfl; clear hd5 hp5)
              go_ret
              exact ⟨rfl, HF5.out.1.2⟩
            · have v30 := lw_n e30
              clear e30
              go_wp2_with ((with_reducible refine c3.mono ?_); rintro e w5 ⟨p5, k5, c5, ps5, t5, b5, rfl, hd5, hp5, -⟩; have HF5 := Lib.hid (hF2.out.later hp5.2); have i0 := HF5.out.2.2.get 0 _ rfl; clear hd5 hp5)
              go_ret
              exact ⟨rfl, HF5.out.1.2⟩
end Go.Proofs.YtjomihlnjobndaaGreatDoor
