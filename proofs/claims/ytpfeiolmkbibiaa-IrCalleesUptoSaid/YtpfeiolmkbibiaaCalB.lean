/- The law IrCallees: its walk. -/
import Derived.Test.YtpfeiolmkbibiaaRepA
import Derived.Test.YtpfeiolmkbibiaaModA
import Derived.Test.YtpfeiolmkbibiaaModB
import Derived.Test.YtpfeiolmkbibiaaModC
import Derived.Test.YtpfeiolmkbibiaaOwnY
namespace Go.Proofs.Ytpfeiolmkbibiaa
open Go.RowKit Go.Maps
set_option linter.unusedVariables false
set_option linter.unusedSimpArgs false

/-- What the document's Callee tells: its list lies below B, where the module does. -/
def RToldB (B : Nat) (m : LMod) (n : Int) (W : World) (e : Ending) (w' : World) : Prop :=
  ∃ p k c ps t b, e = .returned (.tuple #[.slice p k c, .int .i64 t, .bool b]) ∧ callD (modD m) n = (b, ps, t) ∧ Below W.heap.size W w' ∧ ListIn intC NoMem B W p k c ps
set_option maxRecDepth 100000 in
set_option maxHeartbeats 1000000 in
theorem rCallee_at (B : Nat) (m : LMod) (n : Int) (hn : -9223372036854775808 ≤ n) (hn' : n ≤ 9223372036854775807) (W : World) (hB : B ≤ W.heap.size) (h : ModIn B W m) :
    Calls Try.prog 41 #[.agg (modC m).toArray, .int .i64 n] W (RToldB B m n W) := by
  obtain ⟨vp, vn, vc, vs, xp, xn, xc, xs, fp, fn, fc, fs⟩ := m
  obtain ⟨-, h2, h3⟩ := h
  simp only at h2 h3
  obtain rfl : xn = xs.length := h2.1
  obtain rfl : fn = fs.length := h3.1
  have k2 := h2.2.1
  have k3 := h2.2.2.1
  have k2' := h3.2.1
  have k3' := h3.2.2.1
  unfold maxLen at k3 k3'
  have H2 := Lib.hid h2
  have H3 := Lib.hid h3
  clear h2 h3
  show Calls Try.prog 41 #[.agg #[.slice vp vn vc, .slice xp xs.length xc, .slice fp fs.length fc], .int .i64 n] W (RToldB B ⟨vp, vn, vc, vs, xp, xs.length, xc, xs, fp, fs.length, fc, fs⟩ n W)
  have hP := (Past.refl (Nat.le_refl W.heap.size)).alloc (.cells #[.slice vp vn vc, .slice xp xs.length xc, .slice fp fs.length fc] 34)
  have A1 : Box W.heap.size [.slice vp vn vc, .slice xp xs.length xc, .slice fp fs.length fc] (W.alloc (.cells #[.slice vp vn vc, .slice xp xs.length xc, .slice fp fs.length fc] 34)) := Box.new W rfl _ _
  have a1 := A1.get 1 _ rfl
  have a2 := A1.get 2 _ rfl
  go_enter Try.func41, Try.ntmps41
  by_cases hz : 0 ≤ n
  · obtain ⟨N, rfl⟩ := Int.eq_ofNat_of_zero_le hz
    by_cases hlt : N < fs.length
    · obtain ⟨a, rfl, ha, c0, c1, c2, c3⟩ := fn_row H3.out N hlt
      have ha := Nat.lt_of_lt_of_le ha hB
      have d1 := (hP.2.cell (p := ⟨(a.add (N * 4)).block, (a.add (N * 4)).off + 1, none⟩) (blk_add a _ ha)).trans c1
      have d2 := (hP.2.cell (p := ⟨(a.add (N * 4)).block, (a.add (N * 4)).off + 2, none⟩) (blk_add a _ ha)).trans c2
      go_wp2_with fail
      go_region
      all_goals go_wp2
      all_goals go_ret3
      all_goals exact ⟨_, _, _, _, _, _, rfl, callD_fn _ N hlt, by first | exact hP.2 | exact below_drew hP.2, (H3.out.2.2.2.2 _ (List.getElem_mem hlt)).1⟩
    · go_wp2_with fail
      go_ret3
      exact ⟨_, _, _, _, _, _, rfl, callD_fn_no _ N hlt, hP.2, in_nil _ _⟩
  · obtain ⟨N, rfl⟩ : ∃ N : Nat, n = -1 - (N : Int) := ⟨(-1 - n).toNat, by omega⟩
    have eN : -1 - (-1 - (N : Int)) = N := by omega
    by_cases hlt : N < xs.length
    · obtain ⟨a, rfl, ha, c0, c1, c2⟩ := ext_row H2.out N hlt
      have ha := Nat.lt_of_lt_of_le ha hB
      have d1 := (hP.2.cell (p := ⟨(a.add (N * 3)).block, (a.add (N * 3)).off + 1, none⟩) (blk_add a _ ha)).trans c1
      have d2 := (hP.2.cell (p := ⟨(a.add (N * 3)).block, (a.add (N * 3)).off + 2, none⟩) (blk_add a _ ha)).trans c2
      go_wp2_with fail
      go_region
      all_goals go_wp2
      all_goals go_ret3
      all_goals exact ⟨_, _, _, _, _, _, rfl, callD_ext _ N hlt, by first | exact hP.2 | exact below_drew hP.2, H2.out.2.2.2.2 _ (List.getElem_mem hlt)⟩
    · go_wp2_with fail
      go_ret3
      exact ⟨_, _, _, _, _, _, rfl, callD_ext_no _ N hlt, hP.2, in_nil _ _⟩
theorem Stands.box2 {W w : World} {R : List (Nat × List Value)} {O : List Owned} (h : Stands W R O w) {g : Nat} (hg : g = w.heap.size) (cs : List Value) (t : TypeId) : Stands W ((g, cs) :: R) O (w.alloc (.cells cs.toArray t)) := by
  subst hg; exact h.put cs t
/-- A list of numbers that the call owns. -/
def ownL (a b : Nat) (p : Option Addr) (k c : Nat) (ps : List Int) : Owned := (a, b, fun w => ListOwn 3 1 intC NoOwn a b w p k c ps)
theorem Stands.moreL {W w w' : World} {R : List (Nat × List Value)} {O : List Owned} (h : Stands W R O w) (hp : Past w.heap.size w w') {p : Option Addr} {k c : Nat} {ps : List Int} (hy : ListOwn 3 1 intC NoOwn w.heap.size w'.heap.size w' p k c ps) : Stands W R (ownL w.heap.size w'.heap.size p k c ps :: O) w' :=
  h.moreO hp _ hy (fun _ _ hs hq => ListOwn.stay local_NoOwn hq hs)
theorem Stands.ints {W w : World} {R : List (Nat × List Value)} {O : List Owned} (h : Stands W R O w) {a b : Nat} {p : Option Addr} {k c : Nat} {ps : List Int} (hx : ownL a b p k c ps ∈ O) : ListIn intC NoMem w.heap.size w p k c ps :=
  ListOwn.lies (m := 1) (by decide) (fun _ => rfl) (fun _ _ _ _ _ _ => trivial) (h.own _ hx).1 (h.own _ hx).2.2.1

set_option maxRecDepth 100000 in
set_option maxHeartbeats 4000000 in
theorem irCallees_walk (W : World) (m : LMod) (n : Int) (hn : -9223372036854775808 ≤ n) (hn' : n ≤ 9223372036854775807) (h : ModIn W.heap.size W m) (hz : modZ (modD m) ≤ 1048576) :
    Calls Try.prog 7 #[.agg (modC m).toArray, .int .i64 n] W fun e w' => e = .returned (.bool true) ∧ Below W.heap.size W w' := by
  have cl := lives_any
  obtain ⟨vp, vn, vc, vs, xp, xn, xc, xs, fp, fn, fc, fs⟩ := m
  show Calls Try.prog 7 #[.agg #[.slice vp vn vc, .slice xp xn xc, .slice fp fn fc], .int .i64 n] W _
  have S0 : Stands W [(W.heap.size, [.slice vp vn vc, .slice xp xn xc, .slice fp fn fc])] [] (W.alloc (.cells #[.slice vp vn vc, .slice xp xn xc, .slice fp fn fc] 34)) := (Stands.start W).box2 rfl [.slice vp vn vc, .slice xp xn xc, .slice fp fn fc] 34
  obtain ⟨m, em⟩ : ∃ m : LMod, m = ⟨vp, vn, vc, vs, xp, xn, xc, xs, fp, fn, fc, fs⟩ := ⟨_, rfl⟩
  rw [← em] at h hz
  have HMC : Hid (modC m = [.slice vp vn vc, .slice xp xn xc, .slice fp fn fc]) := Lib.hid (by rw [em]; rfl)
  have HH := Lib.hid h
  have HZ := Lib.hid hz
  have HN := Lib.hid (And.intro hn hn')
  clear h hz em hn hn'
  go_enter Try.func7, Try.ntmps7
  go_wp2_with fail
  refine (cl _).mono ?_
  rintro e w1 ⟨rfl, hb1⟩
  have S1 := S0.later hb1
  clear hb1 cl S0
  have y0 := S1.get (b := W.heap.size) (.head _) 0 _ rfl
  have y1 := S1.get (b := W.heap.size) (.head _) 1 _ rfl
  have y2 := S1.get (b := W.heap.size) (.head _) 2 _ rfl
  have HS1 := Lib.hid S1
  clear S1
  go_wp2_with fail
  have hf := Few_any m 20000 w1 (HS1.out.argM HH.out)
  rw [HMC.out] at hf
  refine hf.mono ?_
  rintro e w2 ⟨bf, rfl, hb2⟩
  have HS3 := Lib.hid (HS1.out.later hb2)
  clear y0 y1 y2 hb2 HS1 hf
  cases bf
  · go_wp2
    go_ret
    exact ⟨rfl, HS3.out.past.2⟩
  have y0 := HS3.out.get (b := W.heap.size) (.head _) 0 _ rfl
  have y1 := HS3.out.get (b := W.heap.size) (.head _) 1 _ rfl
  have y2 := HS3.out.get (b := W.heap.size) (.head _) 2 _ rfl
  go_wp2_with fail
  have hcr := rCopy_own m w2 (HS3.out.argM HH.out) HZ.out
  rw [HMC.out] at hcr
  refine hcr.mono ?_
  rintro e w3 ⟨mine, he, hdm, hp3, hom⟩
  clear hcr y0 y1 y2
  obtain ⟨vp1, vn1, vc1, vs1, xp1, xn1, xc1, xs1, fp1, fn1, fc1, fs1⟩ := mine
  obtain rfl : e = .returned (.agg #[.slice vp1 vn1 vc1, .slice xp1 xn1 xc1, .slice fp1 fn1 fc1]) := he
  obtain ⟨mine, em⟩ : ∃ m : LMod, m = ⟨vp1, vn1, vc1, vs1, xp1, xn1, xc1, xs1, fp1, fn1, fc1, fs1⟩ := ⟨_, rfl⟩
  rw [← em] at hdm hom
  have HKC : Hid (modC mine = [.slice vp1 vn1 vc1, .slice xp1 xn1 xc1, .slice fp1 fn1 fc1]) := Lib.hid (by rw [em]; rfl)
  have HDM := Lib.hid hdm
  have S5 : Stands W [(w3.heap.size, [.slice vp1 vn1 vc1, .slice xp1 xn1 xc1, .slice fp1 fn1 fc1]), (W.heap.size, [.slice vp vn vc, .slice xp xn xc, .slice fp fn fc])] [modO w2.heap.size w3.heap.size mine] (w3.alloc (.cells #[.slice vp1 vn1 vc1, .slice xp1 xn1 xc1, .slice fp1 fn1 fc1] 34)) := (HS3.out.moreM hp3 hom).box2 rfl [.slice vp1 vn1 vc1, .slice xp1 xn1 xc1, .slice fp1 fn1 fc1] 34
  have hn1 : W.heap.size < w2.heap.size := HS3.out.lt (.head _)
  have hn2 := hp3.2.size
  have hn3 : w3.heap.size < (w3.alloc (.cells #[.slice vp1 vn1 vc1, .slice xp1 xn1 xc1, .slice fp1 fn1 fc1] 34)).heap.size := by simp
  have HS5 := Lib.hid S5
  clear S5 em hdm hom hp3 HS3
  go_upto_region 6 with fail
  obtain ⟨w5, ew5⟩ : ∃ w5, w3.alloc (.cells #[.slice vp1 vn1 vc1, .slice xp1 xn1 xc1, .slice fp1 fn1 fc1] 34) = w5 := ⟨_, rfl⟩
  rw [ew5] at HS5 hn3 ⊢
  clear ew5
  obtain ⟨lm, elm⟩ : ∃ lm, w2.heap.size = lm := ⟨_, rfl⟩
  obtain ⟨bm, ebm⟩ : ∃ bm, w3.heap.size = bm := ⟨_, rfl⟩
  simp only [ebm, elm] at HS5 hn1 hn2 hn3 ⊢
  clear ebm elm
  obtain ⟨hm, ehm⟩ : ∃ hm, hm = bm := ⟨_, rfl⟩
  have HS6 : Hid (Stands W [(bm, [.slice vp1 vn1 vc1, .slice xp1 xn1 xc1, .slice fp1 fn1 fc1]), (W.heap.size, [.slice vp vn vc, .slice xp xn xc, .slice fp fn fc])] [modO lm hm mine] w5) := Lib.hid (by rw [ehm]; exact HS5.out)
  have hm1 : hm ≤ bm := Nat.le_of_eq ehm
  clear HS5 ehm
  have k0 := HS6.out.get (b := bm) (.head _) 0 _ rfl
  have k1 := HS6.out.get (b := bm) (.head _) 1 _ rfl
  have k2 := HS6.out.get (b := bm) (.head _) 2 _ rfl
  go_wp2_with fail
  have hc6 := Callee_own mine n HN.out.1 HN.out.2 (by rw [HDM.out]; exact HZ.out) w5 (HS6.out.mod (.head _))
  rw [HKC.out] at hc6
  refine hc6.mono ?_
  rintro e w6 ⟨q6, k6, c6, ps, rt, ok, rfl, hcd, hp6, ho6⟩
  rw [HDM.out] at hcd
  have HCD := Lib.hid hcd
  have S6 := HS6.out.moreL hp6 ho6
  have hs6 := hp6.2.size
  clear hc6 k0 k1 k2 hcd HS6 hp6 ho6
  have HS7 := Lib.hid S6
  clear S6
  obtain ⟨l6, el6⟩ : ∃ l6, w5.heap.size = l6 := ⟨_, rfl⟩
  obtain ⟨h6, eh6⟩ : ∃ h6, h6 = w6.heap.size := ⟨_, rfl⟩
  rw [← eh6, el6] at HS7 hs6
  rw [el6] at hn3
  have hh6 : h6 ≤ w6.heap.size := Nat.le_of_eq eh6
  clear el6 eh6
  have k0 := HS7.out.get (b := bm) (.head _) 0 _ rfl
  have k1 := HS7.out.get (b := bm) (.head _) 1 _ rfl
  have k2 := HS7.out.get (b := bm) (.head _) 2 _ rfl
  go_wp2_with fail
  have hc7 := Callee_own mine n HN.out.1 HN.out.2 (by rw [HDM.out]; exact HZ.out) w6 (HS7.out.mod (a := lm) (b := hm) (.tail _ (.head _)))
  rw [HKC.out] at hc7
  refine hc7.mono ?_
  rintro e w7 ⟨q7, k7, c7, ps', rt', ok', rfl, hcd, hp7, ho7⟩
  rw [HDM.out, HCD.out] at hcd
  injection hcd with hcd1 hcd2
  injection hcd2 with hcd2 hcd3
  subst hcd1 hcd2 hcd3
  have S7 := HS7.out.moreL hp7 ho7
  have hs7 := hp7.2.size
  clear hc7 k0 k1 k2 HS7 hp7 ho7
  have HS8 := Lib.hid S7
  clear S7
  obtain ⟨l7, el7⟩ : ∃ l7, w6.heap.size = l7 := ⟨_, rfl⟩
  obtain ⟨h7, eh7⟩ : ∃ h7, h7 = w7.heap.size := ⟨_, rfl⟩
  rw [← eh7, el7] at HS8 hs7
  rw [el7] at hh6
  have hh7 : h7 ≤ w7.heap.size := Nat.le_of_eq eh7
  clear el7 eh7
  have y0 := HS8.out.get (b := W.heap.size) (.tail _ (.head _)) 0 _ rfl
  have y1 := HS8.out.get (b := W.heap.size) (.tail _ (.head _)) 1 _ rfl
  have y2 := HS8.out.get (b := W.heap.size) (.tail _ (.head _)) 2 _ rfl
  go_wp2_with fail
  have hc8 := rCallee_at W.heap.size m n HN.out.1 HN.out.2 w7 HS8.out.past.size (lasts_Mod _ _ _ _ _ HS8.out.past.2 (Nat.le_refl _) HH.out)
  rw [HMC.out] at hc8
  refine hc8.mono ?_
  rintro e w8 ⟨p8, k8, c8, ps', rt', ok', rfl, hcd, hb8, hl8⟩
  rw [HCD.out] at hcd
  injection hcd with hcd1 hcd2
  injection hcd2 with hcd2 hcd3
  subst hcd1 hcd2 hcd3
  have HS9 : Hid (Stands W [(bm, [.slice vp1 vn1 vc1, .slice xp1 xn1 xc1, .slice fp1 fn1 fc1]), (W.heap.size, [.slice vp vn vc, .slice xp xn xc, .slice fp fn fc])] [ownL l7 h7 q7 k7 c7 ps, ownL l6 h6 q6 k6 c6 ps, modO lm hm mine] w8) := Lib.hid (HS8.out.later hb8)
  have HL8 : Hid (ListIn intC NoMem W.heap.size w8 p8 k8 c8 ps) := Lib.hid (hl8.lasts lasts_NoMem (hb8.mono HS8.out.past.size) (Nat.le_refl _))
  have hs8 := hb8.size
  clear hc8 y0 y1 y2 HS8 hl8 hb8 HCD
  have hw8 : h7 ≤ w8.heap.size := by omega
  have cI : ∀ w, Below w8.heap.size w8 w → Calls Try.prog 42 #[.slice q6 k6 c6, .slice p8 k8 c8] w fun e w' => e = .returned (.bool true) ∧ Below w8.heap.size w8 w' := fun w hb =>
    (Ints_any w q6 p8 k6 k8 c6 c8 ps ps (((HS9.out.later hb).ints (a := l6) (b := h6) (.tail _ (.head _)))) (HL8.out.lasts lasts_NoMem (hb.mono HS9.out.past.size) (Nat.le_trans HS9.out.past.size hb.size))).mono fun e w' ⟨b, he, hbt, hbe⟩ => ⟨by rw [he, hbt.2 rfl], hb.trans (hbe.mono hb.size)⟩
  have cM : ∀ w, Below w8.heap.size w8 w → Calls Try.prog 21 #[.agg #[.slice vp1 vn1 vc1, .slice xp1 xn1 xc1, .slice fp1 fn1 fc1], .agg #[.slice vp vn vc, .slice xp xn xc, .slice fp fn fc]] w fun e w' => e = .returned (.bool true) ∧ Below w8.heap.size w8 w' := fun w hb => by
    have hc := rSame_any mine m w ((HS9.out.later hb).mod (a := lm) (b := hm) (.tail _ (.tail _ (.head _)))) ((HS9.out.later hb).argM HH.out)
    rw [HKC.out, HMC.out] at hc
    exact hc.mono fun e w' ⟨b, he, hbt, hbe⟩ => ⟨by rw [he, hbt.2 HDM.out], hb.trans (hbe.mono hb.size)⟩
  go_wp2_with ((with_reducible refine (cI _ (Below.refl _ _)).mono ?_); rintro e w9 ⟨rfl, hb9⟩
               have S9 := HS9.out.later hb9
               have y0 := S9.get (b := W.heap.size) (.tail _ (.head _)) 0 _ rfl
               have y1 := S9.get (b := W.heap.size) (.tail _ (.head _)) 1 _ rfl
               have y2 := S9.get (b := W.heap.size) (.tail _ (.head _)) 2 _ rfl
               have k0 := S9.get (b := bm) (.head _) 0 _ rfl
               have k1 := S9.get (b := bm) (.head _) 1 _ rfl
               have k2 := S9.get (b := bm) (.head _) 2 _ rfl
               clear S9)
  refine (cM _ hb9).mono ?_
  rintro e w10 ⟨rfl, hb10⟩
  have HS10 := Lib.hid (HS9.out.later hb10)
  have HL10 : Hid (ListIn intC NoMem W.heap.size w10 p8 k8 c8 ps) := Lib.hid (HL8.out.lasts lasts_NoMem (hb10.mono HS9.out.past.size) (Nat.le_refl _))
  have hs10 := hb10.size
  have hw10 : h7 ≤ w10.heap.size := by omega
  clear cI cM hb9 y0 y1 y2 k0 k1 k2 HS9 HL8 hb10
  have hL := (HS10.out.own _ (.tail _ (.head _))).1
  have hL : ListOwn 3 1 intC NoOwn l6 h6 w10 q6 k6 c6 ps := hL
  obtain rfl : k6 = ps.length := hL.1
  obtain ⟨kc1, kc2⟩ := hL.caps
  have HL6 := Lib.hid hL
  have hle := hL.le
  clear hL
  go_wp2_with fail
  go_loopw [66] (fun t wr => ∃ (i : Nat) (qs : List Int), i ≤ ps.length ∧ t = .int .i64 i ∧ qs.length = ps.length ∧ Out l6 h6 w10 wr ∧ ListOwn 3 1 intC NoOwn l6 h6 wr q6 ps.length c6 qs) (fun t _ => ps.length - (intOf t).toNat)
  case atStart => exact ⟨0, ps, Nat.zero_le _, rfl, rfl, Out.refl _ _ _, HL6.out⟩
  case round =>
    obtain ⟨i, qs, hi2, rfl, hql, hO, hP⟩ := hrel
    by_cases hlt : i < ps.length
    · obtain ⟨g, rfl⟩ := hP.some_row (by omega)
      have hil : i < qs.length := by omega
      have hr := own_range (f := intC) (m := 1) (fun _ => rfl) hP.2.1 i hil
      have hth := own_there (f := intC) (m := 1) (fun _ => rfl) hP.2.1 i hil
      have c0 := hr 0 _ rfl
      have fz := (hth 0 (by decide)).2
      simp only [Nat.mul_one, Nat.add_zero] at c0 fz
      obtain ⟨hput, hg1, hg2⟩ := hP.put (m := 1) local_NoOwn (by decide) (fun _ => rfl) i hil (-4) (fun _ _ _ _ => trivial)
      rw [Nat.mul_one] at hput
      have ho2 := out_setCells hg1 hg2 (intC (-4)) i wr
      have HP := Lib.hid (And.intro hput ho2)
      clear hr hth hP hput ho2
      go_wp2_with fail
      exact ⟨⟨i + 1, qs.set i (-4), by omega, by go_num, by rw [List.length_set]; exact hql, hO.trans HP.out.2, HP.out.1⟩, by simp [intOf]; omega⟩
    · have hWl : W.heap.size ≤ l6 := by omega
      have S11 : Stands W [(bm, [.slice vp1 vn1 vc1, .slice xp1 xn1 xc1, .slice fp1 fn1 fc1]), (W.heap.size, [.slice vp vn vc, .slice xp xn xc, .slice fp fn fc])] [ownL l7 h7 q7 k7 c7 ps, modO lm hm mine] wr := Stands.out (HS10.out.sub (fun x hx => hx) (fun x hx => by
        simp only [List.mem_cons, List.not_mem_nil, or_false] at hx
        rcases hx with rfl | rfl
        · exact .head _
        · exact .tail _ (.tail _ (.head _)))) hO hWl (fun x hx => by simp only [List.mem_cons, List.not_mem_nil, or_false] at hx; rcases hx with rfl | rfl <;> simp only <;> omega) (fun x hx => by simp only [List.mem_cons, List.not_mem_nil, or_false] at hx; rcases hx with rfl | rfl <;> simp only [ownL, modO] <;> omega)
      have HL11 : Hid (ListIn intC NoMem W.heap.size wr p8 k8 c8 ps) := Lib.hid (HL10.out.lasts lasts_NoMem (hO.below hWl HS10.out.past.size) (Nat.le_refl _))
      have HS11 := Lib.hid S11
      have cI : ∀ w, Below wr.heap.size wr w → Calls Try.prog 42 #[.slice q7 k7 c7, .slice p8 k8 c8] w fun e w' => e = .returned (.bool true) ∧ Below wr.heap.size wr w' := fun w hb =>
        (Ints_any w q7 p8 k7 k8 c7 c8 ps ps (((HS11.out.later hb).ints (a := l7) (b := h7) (.head _))) (HL11.out.lasts lasts_NoMem (hb.mono HS11.out.past.size) (Nat.le_trans HS11.out.past.size hb.size))).mono fun e w' ⟨b, he, hbt, hbe⟩ => ⟨by rw [he, hbt.2 rfl], hb.trans (hbe.mono hb.size)⟩
      have cM : ∀ w, Below wr.heap.size wr w → Calls Try.prog 21 #[.agg #[.slice vp1 vn1 vc1, .slice xp1 xn1 xc1, .slice fp1 fn1 fc1], .agg #[.slice vp vn vc, .slice xp xn xc, .slice fp fn fc]] w fun e w' => e = .returned (.bool true) ∧ Below wr.heap.size wr w' := fun w hb => by
        have hc := rSame_any mine m w ((HS11.out.later hb).mod (a := lm) (b := hm) (.tail _ (.head _))) ((HS11.out.later hb).argM HH.out)
        rw [HKC.out, HMC.out] at hc
        exact hc.mono fun e w' ⟨b, he, hbt, hbe⟩ => ⟨by rw [he, hbt.2 HDM.out], hb.trans (hbe.mono hb.size)⟩
      clear S11 hO hP
      go_wp2_with ((with_reducible refine (cI _ (Below.refl _ _)).mono ?_); rintro e w19 ⟨rfl, hb19⟩
                   have S19 := HS11.out.later hb19
                   have y0 := S19.get (b := W.heap.size) (.tail _ (.head _)) 0 _ rfl
                   have y1 := S19.get (b := W.heap.size) (.tail _ (.head _)) 1 _ rfl
                   have y2 := S19.get (b := W.heap.size) (.tail _ (.head _)) 2 _ rfl
                   have k0 := S19.get (b := bm) (.head _) 0 _ rfl
                   have k1 := S19.get (b := bm) (.head _) 1 _ rfl
                   have k2 := S19.get (b := bm) (.head _) 2 _ rfl
                   clear S19)
      refine (cM _ hb19).mono ?_
      rintro e w20 ⟨rfl, hb20⟩
      clear y0 y1 y2 k0 k1 k2
      go_wp2_with fail
      go_ret
      exact ⟨rfl, (HS11.out.later hb20).past.2⟩
end Go.Proofs.Ytpfeiolmkbibiaa
