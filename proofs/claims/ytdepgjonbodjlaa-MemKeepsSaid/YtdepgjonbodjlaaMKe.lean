/- MemKeeps: the walk. -/
import Derived.Test.YtdepgjonbodjlaaMFr
import Derived.Test.YtdepgjonbodjlaaMKp
namespace Go.Proofs.Ytdepgjonbodjlaa
open Go.RowKit Go.Maps
set_option linter.unusedVariables false
set_option linter.unusedSimpArgs false

set_option maxRecDepth 100000 in
set_option maxHeartbeats 8000000 in
theorem memKeeps_walk (p0 p1 : Option Addr) (c0 c1 : Nat) (xs : List Int) (l1 : List Sp) (tt : Int) (vv tv : Vl) (W : World) (hx : ListIn intC NoMem W.heap.size W p0 xs.length c0 xs) (hxw : ∀ x ∈ xs, wf64 x)
    (h1 : ListIn spC NoMem W.heap.size W p1 l1.length c1 l1) (h1w : ∀ s ∈ l1, SpOk s) (hvv : VlOk vv) (htv : VlOk tv) :
    Calls Try.prog 6 #[.slice p0 xs.length c0, .slice p1 l1.length c1, .int .i64 tt, vv.val, tv.val] W fun e w' => e = .returned (.bool true) ∧ Below W.heap.size W w' := by
  obtain ⟨vvk, vvb, vvbk, vvo⟩ := vv
  obtain ⟨tk, tb, tbk, tof⟩ := tv
  obtain ⟨W0, eW0⟩ : ∃ W0, (W.alloc (.cells #[.int .i64 vvk, .int .u64 vvb, .int .i64 vvbk, .int .i64 vvo] 24)).alloc (.cells #[.int .i64 tk, .int .u64 tb, .int .i64 tbk, .int .i64 tof] 24) = W0 := ⟨_, rfl⟩
  have HW0 : Hid (Below W.heap.size W W0) := Lib.hid (by rw [← eW0]; exact below2 W _ _)
  have BV : Hid (Box W.heap.size (vlC ⟨vvk, vvb, vvbk, vvo⟩) W0) := Lib.hid (by rw [← eW0]; exact (Box.new W rfl _ _).alloc _)
  have BT : Hid (Box (W.heap.size + 1) (vlC ⟨tk, tb, tbk, tof⟩) W0) := Lib.hid (by rw [← eW0]; exact Box.new _ (by simp) _ _)
  have cl := lives_any W0
  have k1 := h1.2.1
  have k2 := h1.2.2.1
  have k5 := hx.2.1
  have k6 := hx.2.2.1
  unfold maxLen at k2 k6
  have h1' : ListIn spC NoMem W0.heap.size W0 p1 l1.length c1 l1 := ListIn.lasts lasts_NoMem h1 HW0.out HW0.out.size
  have H1 := Lib.hid h1'
  have HW1 := Lib.hid h1w
  have cN : ∀ w, xs.length ≤ 1000 → Below W0.heap.size W0 w → Calls Try.prog 17 #[.slice p0 xs.length c0] w fun e w' => ∃ o mb, e = .returned (.pointer (some ⟨mb, 0, none⟩)) ∧ MemD o mb (dNews xs) w' ∧ Below w.heap.size w w' ∧ (∀ k, k < w.heap.size → o k = 0) := fun w hl hb => NewD w p0 c0 xs (ListIn.lasts lasts_NoMem hx (HW0.out.trans (hb.mono HW0.out.size)) (HW0.out.trans (hb.mono HW0.out.size)).size) hxw hl
  have HXL := Lib.hid (dNews_len xs)
  have HVV := Lib.hid hvv
  have HTV := Lib.hid htv
  clear hx h1 h1w h1' hvv htv
  show Calls _ _ #[.slice p0 xs.length c0, .slice p1 l1.length c1, .int .i64 tt, .agg #[.int .i64 vvk, .int .u64 vvb, .int .i64 vvbk, .int .i64 vvo], .agg #[.int .i64 tk, .int .u64 tb, .int .i64 tbk, .int .i64 tof]] W _
  by_cases g1 : 20 < xs.length
  · have g1' : (20 : Int) < (xs.length : Int) := by omega
    clear g1
    go_enter Try.func6, Try.ntmps6
    go_upto_region 1 with fail
    clear eW0
    go_wp2_with (first | ((with_reducible refine cl.mono ?_); rintro e w1 ⟨rfl, hb1⟩))
    go_ret
    exact ⟨rfl, HW0.out.trans (hb1.mono HW0.out.size)⟩
  · have g1' : ¬ (20 : Int) < (xs.length : Int) := by omega
    by_cases g2 : 40 < l1.length
    · have g2' : (40 : Int) < (l1.length : Int) := by omega
      clear g1 g2
      go_enter Try.func6, Try.ntmps6
      go_upto_region 1 with fail
      clear eW0
      go_wp2_with (first | ((with_reducible refine cl.mono ?_); rintro e w1 ⟨rfl, hb1⟩))
      go_ret
      exact ⟨rfl, HW0.out.trans (hb1.mono HW0.out.size)⟩
    · have g2' : ¬ (40 : Int) < (l1.length : Int) := by omega
      have n1 : xs.length ≤ 20 := by omega
      have n2 : l1.length ≤ 40 := by omega
      have n4 : xs.length ≤ 1000 := by omega
      obtain ⟨iV, hiV, hz0, hz1, hz2⟩ := info_parts infoBys
      have HI := Lib.hid (And.intro hiV (And.intro hz0 (And.intro hz1 hz2)))
      have b0 := bV0
      clear g1 g2 hiV hz0 hz1 hz2
      go_enter Try.func6, Try.ntmps6
      go_upto_region 1 with fail
      clear eW0
      go_wp2_with (first
        | ((with_reducible refine cl.mono ?_); rintro e w1 ⟨rfl, hb1⟩; have d1 := cN w1 n4 hb1; have HB1 := Lib.hid hb1; clear hb1)
        | ((with_reducible refine d1.mono ?_); rintro e w2 ⟨o, mb, rfl, hm2, hb2, ho2⟩))
      have M0 : Mo W0 o mb (dNews xs) w2 := ⟨hm2, fun k hk => ho2 k (Nat.lt_of_lt_of_le hk HB1.out.size), HB1.out.trans (hb2.mono HB1.out.size)⟩
      have HM0 := Lib.hid M0
      clear cl cN d1 hm2 hb2 ho2 M0
      go_loopw [12, 44] (fun vb vi wr => ∃ (k n : Nat) (o : Nat → Nat) (D : Dm), k ≤ l1.length ∧ vi = .int .i64 k ∧ vb = .int .i64 n ∧ D.length = n ∧ n ≤ 20 + k ∧ Mo W0 o mb D wr) (fun _ vi _ => l1.length - (intOf vi).toNat)
      case atStart => exact ⟨0, xs.length, o, dNews xs, Nat.zero_le _, rfl, rfl, HXL.out, by omega, HM0.out⟩
      case round =>
        clear HM0
        obtain ⟨k, n, o, D, hk, rfl, rfl, hD, hn, hM⟩ := hrel
        have HM := Lib.hid hM
        have HD := Lib.hid hD
        clear hM hD
        by_cases t1 : k < l1.length
        · obtain ⟨a1, ea1, ha1, hsp⟩ := sp_row H1.out HM.out.past k t1
          subst ea1
          have hwf := HW1.out _ (List.getElem_mem t1)
          obtain ⟨⟨kd, a, b, t, ⟨vk, vb, vbk, vo⟩, ⟨ak, ab, abk, ao⟩, y⟩, es⟩ : ∃ s, l1[k] = s := ⟨_, rfl⟩
          rw [es] at hsp hwf
          obtain ⟨hs0, hs1, hs2, hs3, hs4, hs5, hs6, hs7⟩ := hwf
          have hs1' := hs1
          have hs2' := hs2
          have hs6' := hs6
          have hs7' := hs7
          simp only at hs1' hs2' hs6' hs7'
          obtain ⟨f0, f1, f2, f3, f4, f5, f6, f7, f8, f9, f10, f11, f12⟩ := hsp
          simp only at f0 f1 f2 f3 f4 f5 f6 f7 f8 f9 f10 f11 f12
          have HA := Lib.hid (HM.out.later (below1 wr (.cells #[.int .i64 kd, .int .i64 a, .int .i64 b, .int .i64 t, .int .i64 vk, .int .u64 vb, .int .i64 vbk, .int .i64 vo, .int .i64 ak, .int .u64 ab, .int .i64 abk, .int .i64 ao, .int .u8 y] 43)))
          have e1 := AllocD o mb D _ a hs1 (by have := HD.out; omega) HA.out.m
          have e4 : Calls Try.prog 24 #[.pointer (some ⟨mb, 0, none⟩), .int .i64 t, .agg #[.int .i64 vk, .int .u64 vb, .int .i64 vbk, .int .i64 vo], .agg #[.int .i64 ak, .int .u64 ab, .int .i64 abk, .int .i64 ao]] (wr.alloc (.cells #[.int .i64 kd, .int .i64 a, .int .i64 b, .int .i64 t, .int .i64 vk, .int .u64 vb, .int .i64 vbk, .int .i64 vo, .int .i64 ak, .int .u64 ab, .int .i64 abk, .int .i64 ao, .int .u8 y] 43)) fun e w' => e = .returned (.bool (dIn D t ⟨ak, ab, abk, ao⟩)) ∧ GoesD o mb (dStore D t ⟨vk, vb, vbk, vo⟩ ⟨ak, ab, abk, ao⟩) _ w' := StoreD o mb D _ t ⟨vk, vb, vbk, vo⟩ ⟨ak, ab, abk, ao⟩ hs4.1 hs4.2.1 hs5.2.1 hs5.2.2.1 HA.out.m
          clear es hs0 hs1 hs2 hs3 hs4 hs5 hs6 hs7
          have e2 := FreeD o mb D _ a hs1' HA.out.m
          have e5 := Set_any o mb D _ a b y hs1' hs2' ⟨hs6', hs7'⟩ HA.out.m
          clear hs1' hs2' hs6' hs7'
          by_cases q1 : kd = 1
          · have r1 : (kd == 1) = true := by rw [q1]; rfl
            clear q1
            go_wp2_with (first | ((with_reducible refine e1.mono ?_); rintro e w5 ⟨rfl, g5⟩))
            obtain ⟨o', m5, _, _⟩ := HA.out.go g5
            exact ⟨⟨k + 1, n + 1, o', _, t1, by go_num, by go_num, by rw [dNew_len, HD.out], by omega, m5⟩, by simp [intOf]; omega⟩
          · have r1 : (kd == 1) = false := by simpa using q1
            by_cases q2 : kd = 2
            · have r2 : (kd == 2) = true := by rw [q2]; rfl
              clear q1 q2
              go_wp2_with (first | ((with_reducible refine e2.mono ?_); rintro e w5 ⟨rfl, g5⟩))
              obtain ⟨o', m5, _, _⟩ := HA.out.go g5
              exact ⟨⟨k + 1, n, o', _, t1, by go_num, rfl, by rw [dFree_len, HD.out], by omega, m5⟩, by simp [intOf]; omega⟩
            · have r2 : (kd == 2) = false := by simpa using q2
              by_cases q4 : kd = 4
              · have r4 : (kd == 4) = true := by rw [q4]; rfl
                clear q1 q2 q4
                go_wp2_with (first | ((with_reducible refine e4.mono ?_); rintro e w5 ⟨rfl, g5⟩))
                obtain ⟨o', m5, _, _⟩ := HA.out.go g5
                exact ⟨⟨k + 1, n, o', _, t1, by go_num, rfl, by rw [dStore_len, HD.out], by omega, m5⟩, by simp [intOf]; omega⟩
              · have r4 : (kd == 4) = false := by simpa using q4
                by_cases q5 : kd = 5
                · have r5 : (kd == 5) = true := by rw [q5]; rfl
                  clear q1 q2 q4 q5
                  go_wp2_with (first | ((with_reducible refine e5.mono ?_); rintro e w5 ⟨rfl, g5⟩))
                  obtain ⟨o', m5, _, _⟩ := HA.out.go g5
                  exact ⟨⟨k + 1, n, o', _, t1, by go_num, rfl, by rw [dSet_len, HD.out], by omega, m5⟩, by simp [intOf]; omega⟩
                · have r5 : (kd == 5) = false := by simpa using q5
                  clear q1 q2 q4 q5
                  go_wp2_with fail
                  exact ⟨⟨k + 1, n, o, _, t1, by go_num, rfl, HD.out, by omega, HA.out⟩, by simp [intOf]; omega⟩
        · obtain rfl : k = l1.length := by omega
          have hn60 : n ≤ 60 := by omega
          clear hk t1
          go_wp2_with fail
          clear HW1 hn
          go_loopw [15, 16] (fun vw vi wr => ∃ (k : Nat) (ys : List Wx) (pw : Option Addr) (cw : Nat), k ≤ n ∧ vi = .int .i64 k ∧ vw = .slice pw k cw ∧ ys.length = k ∧ (∀ i (h : i < ys.length), ys[i].2.2 = dBytes D i) ∧ Mo W0 o mb D wr ∧ Wa W0 o ys pw cw wr) (fun _ vi _ => n - (intOf vi).toNat)
          case atStart => exact ⟨0, [], none, 0, Nat.zero_le _, rfl, rfl, rfl, fun i h => absurd h (Nat.not_lt_zero _), HM.out, Wa.nil _ _ _⟩
          case round =>
            clear HM
            obtain ⟨k, ys, pw, cw, hk, rfl, rfl, hys, hyb, hM, hWa⟩ := hrel
            have HM := Lib.hid hM
            have HWa := Lib.hid hWa
            have HYS := Lib.hid hys
            have HYB := Lib.hid hyb
            clear hM hWa hys hyb
            by_cases t2 : k < n
            · have hwk : wf64 (k : Int) := ⟨by omega, by omega⟩
              have d3 := BytesD o mb D wr (k : Int) hwk HM.out.m
              obtain ⟨L, eL⟩ : ∃ L, dBytes D (k : Int) = L := ⟨_, rfl⟩
              rw [eL] at d3
              have EL := Lib.hid eL
              have h63 : Hid (k + 1 ≤ maxLen) := Lib.hid (by unfold maxLen; omega)
              have hb1 : Hid ((k + 1) * 24 ≤ 140737488355328) := Lib.hid (by omega)
              clear eL hwk
              go_wp2_with (first
                | ((with_reducible refine d3.mono ?_); rintro e w7 ⟨p7, c7, rfl, hr7, hb7⟩; have X7 := Lib.hid (And.intro hr7 hb7); have R7 := HWa.out.later hb7; have R7 := R7.row; rw [HYS.out] at R7; have R7 := Lib.hid R7; clear hr7 hb7)
                | (at_builtin; refine wpList_append_at rfl (.tmp 90) (.tmp 94) 53 rfl W0.heap.size 25 iV _ 1 24 Try.underlying53 HI.out.1 HI.out.2.1 HI.out.2.2.1 HI.out.2.2.2 rfl (by decide) (.slice pw k cw) k _ rfl (R7.out.alloc _) (some ⟨w7.heap.size, 0, none⟩) 1 1 [.slice p7 L.length c7] rfl rfl (lit_at' _ rfl _ _) (by intro u hu; simp at hu; subst hu; rfl) h63.out hb1.out (by have h1 := HM.out.past.size; have h2 := X7.out.2.size; simp; omega) ?_; intro v8 w8 hown8 hgrow8 hmv8))
              obtain ⟨q8, c8, rfl⟩ := row_slice hown8
              rw [← HYS.out] at hown8 hgrow8 hmv8
              have hW8 := HWa.out.snoc HM.out.m HM.out.past.size (p7, c7, L) (.cells #[.slice p7 L.length c7] 25) X7.out.1 X7.out.2 hown8 hgrow8 hmv8
              have M7 := HM.out.later X7.out.2
              have M8 : Mo W0 o mb D w8 := by
                refine ⟨?_, M7.low, ?_⟩
                · obtain ⟨ab, st, m1, m2, m3⟩ := (M7.later (below1 w7 (.cells #[.slice p7 L.length c7] 25))).m
                  refine ⟨ab, st, m1.same hgrow8.size (fun j hj => hgrow8.block j (m1.inside j hj) (fun e => hj (HWa.out.out j e.symm))), m2, m3⟩
                · exact (M7.later (below1 w7 (.cells #[.slice p7 L.length c7] 25))).past.grown hgrow8 (by have h1 := M7.past.size; simp; omega) (fun j e => (HWa.out.row.lt j e).1)
              exact ⟨⟨k + 1, ys ++ [(p7, c7, L)], q8, c8, t2, by go_num, by rw [← HYS.out], by rw [List.length_append, HYS.out]; rfl, fun i h => by
                by_cases e : i < ys.length
                · rw [List.getElem_append_left e]; exact HYB.out i e
                · have hi : i = ys.length := by rw [List.length_append] at h; simp at h; omega
                  subst hi
                  rw [List.getElem_append_right (Nat.le_refl _)]
                  simp only [Nat.sub_self, List.getElem_cons_zero]
                  rw [HYS.out]; exact EL.out.symm, M8, hW8⟩, by simp [intOf]; omega⟩
            · obtain rfl : k = n := by omega
              cases hin : dIn D tt ⟨tk, tb, tbk, tof⟩
              · skip
                obtain ⟨⟨nk, nb, nbk, no⟩, en⟩ : ∃ n, norm tt ⟨vvk, vvb, vvbk, vvo⟩ = n := ⟨_, rfl⟩
                obtain ⟨N, eN⟩ : ∃ N, wd tt = N := ⟨_, rfl⟩
                have hN := wd_le tt
                have VB := BV.out.below HM.out.past BV.out.1
                have VT := BT.out.below HM.out.past BT.out.1
                have v0 := VB.get 0 _ rfl; have v1 := VB.get 1 _ rfl; have v2 := VB.get 2 _ rfl; have v3 := VB.get 3 _ rfl
                have z0 := VT.get 0 _ rfl; have z1 := VT.get 1 _ rfl; have z2 := VT.get 2 _ rfl; have z3 := VT.get 3 _ rfl
                obtain ⟨D2, eD2⟩ : ∃ D2, D = D2 := ⟨_, rfl⟩
                have e1 : Calls Try.prog 24 #[.pointer (some ⟨mb, 0, none⟩), .int .i64 tt, .agg #[.int .i64 vvk, .int .u64 vvb, .int .i64 vvbk, .int .i64 vvo], .agg #[.int .i64 tk, .int .u64 tb, .int .i64 tbk, .int .i64 tof]] wr fun e w' => e = .returned (.bool false) ∧ GoesD o mb D2 wr w' := by
                  have := StoreD o mb D wr tt ⟨vvk, vvb, vvbk, vvo⟩ ⟨tk, tb, tbk, tof⟩ HVV.out.1 HVV.out.2.1 HTV.out.2.1 HTV.out.2.2.1 HM.out.m
                  rw [store_out hin, hin] at this
                  rw [← eD2]
                  exact this
                have e3 : ∀ w, Calls Try.prog 15 #[.int .i64 tt, .agg #[.int .i64 vvk, .int .u64 vvb, .int .i64 vvbk, .int .i64 vvo]] w fun e w' => e = .returned (.agg #[.int .i64 nk, .int .u64 nb, .int .i64 nbk, .int .i64 no]) ∧ Below w.heap.size w w' := fun w => by
                  have := Norm_any tt ⟨vvk, vvb, vvbk, vvo⟩ w HVV.out.1
                  rw [en] at this
                  exact this
                have e4 : ∀ w, Calls Try.prog 10 #[.int .i64 tt, .agg #[.int .i64 vvk, .int .u64 vvb, .int .i64 vvbk, .int .i64 vvo]] w fun e w' => ∃ p c, e = .returned (.slice p N c) ∧ Below w.heap.size w w' := fun w => by
                  have := Pack_any tt ⟨vvk, vvb, vvbk, vvo⟩ w HVV.out.1
                  rw [eN] at this
                  refine this.mono ?_
                  rintro e w' ⟨p, c, rfl, _, hb⟩
                  exact ⟨p, c, rfl, hb⟩
                rw [eN] at hN
                have HSL : Hid (∀ j : Int, (dBytes D2 j).length = (dBytes D j).length) := Lib.hid (fun j => by rw [eD2])
                have HST : Hid (∀ (j : Int) (i : Nat), ¬ False → (dBytes D2 j)[i]? = (dBytes D j)[i]?) := Lib.hid (fun j i _ => by rw [eD2])
                have e2 : ∀ o w, MemD o mb D2 w → Calls Try.prog 26 #[.pointer (some ⟨mb, 0, none⟩), .int .i64 tt, .agg #[.int .i64 tk, .int .u64 tb, .int .i64 tbk, .int .i64 tof]] w fun e w' => e = .returned (.tuple #[.agg #[.int .i64 0, .int .u64 0, .int .i64 0, .int .i64 0], .bool false]) ∧ Below w.heap.size w w' := fun o w h => by
                  have := LoadD o mb D2 w tt ⟨tk, tb, tbk, tof⟩ HTV.out.2.1 HTV.out.2.2.1 h
                  have hv : loadV D2 tt ⟨tk, tb, tbk, tof⟩ = (⟨0, 0, 0, 0⟩ : Vl) := by unfold loadV; rw [← eD2, hin]; rfl
                  rw [hv, ← eD2, hin] at this
                  exact this
                clear en eN eD2 hin VB VT hk t2
                by_cases q1 : tt = 65
                · have r1 : (tt == 65) = true := by rw [q1]; rfl
                  by_cases q3 : vvk = 3
                  · have r3 : (vvk == 3) = true := by rw [q3]; rfl
                    clear q1 q3
                    go_wp2_with (first
                      | ((with_reducible refine e1.mono ?_); rintro e w5 ⟨rfl, g5⟩; obtain ⟨o5, M5, O5, E5⟩ := HM.out.go g5; have W5 := HWa.out.only O5 E5; have e2' := e2 o5 w5 M5.m; have HM5 := Lib.hid M5; have HW5 := Lib.hid W5; have VB := BV.out.below M5.past BV.out.1; have VT := BT.out.below M5.past BT.out.1; have v0 := VB.get 0 _ rfl; have v1 := VB.get 1 _ rfl; have v2 := VB.get 2 _ rfl; have v3 := VB.get 3 _ rfl; have z0 := VT.get 0 _ rfl; have z1 := VT.get 1 _ rfl; have z2 := VT.get 2 _ rfl; have z3 := VT.get 3 _ rfl; have HVB := Lib.hid VB; clear g5 M5 W5 O5 E5 VB VT)
                      | ((with_reducible refine e2'.mono ?_); rintro e w6 ⟨rfl, hb6⟩; have HM6 := Lib.hid ((HM5.out.later hb6).later (below1 w6 (.cells #[.int .i64 0, .int .u64 0, .int .i64 0, .int .i64 0] 24))); have HW6 := Lib.hid ((HW5.out.later hb6).later (below1 w6 (.cells #[.int .i64 0, .int .u64 0, .int .i64 0, .int .i64 0] 24))); have VB := (HVB.out.later hb6).later (below1 w6 (.cells #[.int .i64 0, .int .u64 0, .int .i64 0, .int .i64 0] 24)); have V18 := Box.new w6 rfl [.int .i64 0, .int .u64 0, .int .i64 0, .int .i64 0] 24; have HV18 := Lib.hid V18; have v0 := VB.get 0 _ rfl; have v1 := VB.get 1 _ rfl; have v2 := VB.get 2 _ rfl; have v3 := VB.get 3 _ rfl; have HVB2 := Lib.hid VB; clear hb6 VB V18)
                      | ((with_reducible refine (e3 _).mono ?_); rintro e w7 ⟨rfl, hb7⟩; have HM7 := Lib.hid ((HM6.out.later hb7).later (below1 w7 (.cells #[.int .i64 0, .int .u64 0, .int .i64 0, .int .i64 0] 24))); have HW7 := Lib.hid ((HW6.out.later hb7).later (below1 w7 (.cells #[.int .i64 0, .int .u64 0, .int .i64 0, .int .i64 0] 24))); have VB := (HVB2.out.later hb7); have V18 := HV18.out.later hb7; have v0 := VB.get 0 _ rfl; have v1 := VB.get 1 _ rfl; have v2 := VB.get 2 _ rfl; have v3 := VB.get 3 _ rfl; have y0 := V18.get 0 _ rfl; have y1 := V18.get 1 _ rfl; have y2 := V18.get 2 _ rfl; have y3 := V18.get 3 _ rfl; have VC := VB.alloc (.cells #[.int .i64 nk, .int .u64 nb, .int .i64 nbk, .int .i64 no] 24); have aa0 := VC.get 0 _ rfl; have aa1 := VC.get 1 _ rfl; have aa2 := VC.get 2 _ rfl; have aa3 := VC.get 3 _ rfl; have VD := VB.alloc (.cells #[.int .i64 0, .int .u64 0, .int .i64 0, .int .i64 0] 24); have bb0 := VD.get 0 _ rfl; have bb1 := VD.get 1 _ rfl; have bb2 := VD.get 2 _ rfl; have bb3 := VD.get 3 _ rfl; have VE := V18.alloc (.cells #[.int .i64 0, .int .u64 0, .int .i64 0, .int .i64 0] 24); have cc0 := VE.get 0 _ rfl; have cc1 := VE.get 1 _ rfl; have cc2 := VE.get 2 _ rfl; have cc3 := VE.get 3 _ rfl; clear hb7 VB V18 VC VD VE)
                      | ((with_reducible refine (e4 _).mono ?_); rintro e w8 ⟨p8, c8, rfl, hb8⟩))
                    have HM9 := Lib.hid (HM7.out.later hb8)
                    have HW9 := Lib.hid (HW7.out.later hb8)
                    clear HM HWa HM5 HW5 HM6 HW6 HM7 HW7 HVB HVB2 HV18 hb8 e1 e2 e3 e4 e2'
                    go_loopw [22] (fun u wr => ∃ j : Nat, j ≤ k ∧ u = .int .i64 j ∧ Mo W0 o5 mb D2 wr ∧ Wa W0 o5 ys pw cw wr) (fun u _ => k - (intOf u).toNat)
                    case atStart => exact ⟨0, Nat.zero_le _, rfl, HM9.out, HW9.out⟩
                    case round =>
                      clear HM9 HW9
                      obtain ⟨j, hj, rfl, hM, hWa⟩ := hrel
                      have HM := Lib.hid hM
                      have HWa := Lib.hid hWa
                      clear hM hWa
                      by_cases t3 : j < k
                      · have hwk : wf64 (j : Int) := ⟨by omega, by omega⟩
                        have d3 := BytesD o5 mb D2 wr (j : Int) hwk HM.out.m
                        obtain ⟨L, eL⟩ : ∃ L, dBytes D2 (j : Int) = L := ⟨_, rfl⟩
                        rw [eL] at d3
                        have hij : j < ys.length := by rw [HYS.out]; exact t3
                        obtain ⟨g, eg, hcell, hby, hcw1, hcw2⟩ := HWa.out.cell j hij
                        have hyl := HYB.out j hij
                        obtain ⟨⟨px, cx, lx⟩, ey⟩ : ∃ x, ys[j] = x := ⟨_, rfl⟩
                        rw [ey] at hcell hby hyl
                        simp only at hcell hby hyl
                        have hlen : L.length = lx.length := by rw [← eL, HSL.out, hyl]
                        have hL2 : ∀ i (h : i < lx.length) (h' : i < L.length), ¬ (False) → L[i] = lx[i] := fun i h h' hn => by
                          have := HST.out (j : Int) i hn
                          rw [eL, ← hyl, List.getElem?_eq_getElem h, List.getElem?_eq_getElem h'] at this
                          injection this
                        subst eg
                        rw [HYS.out] at hcw1
                        unfold maxLen at hcw2
                        have glt := block_lt hcell
                        have HL2 := Lib.hid hL2
                        have HBY := Lib.hid hby
                        have HLEN := Lib.hid hlen
                        have HIJ := Lib.hid hij
                        have HEY := Lib.hid ey
                        have hlen' : ((L.length : Int) != (lx.length : Int)) = false := by rw [hlen]; simp
                        have hcx := hby.2.1
                        have hcx2 := hby.2.2.1
                        unfold maxLen at hcx2
                        have t3' : (j : Int) < (k : Int) := by omega
                        clear eL hwk ey hyl hby hlen hL2
                        go_wp2_with (first
                          | ((with_reducible refine d3.mono ?_); rintro e w7 ⟨p7, c7, rfl, hr7, hb7⟩; have hcell7 := (hb7.cell (p := ⟨g, j, none⟩) glt).trans hcell; have X7 := Lib.hid (And.intro hr7 hb7); clear hr7 hb7))
                        have HQ0 := Lib.hid (HM.out.later X7.out.2)
                        have HV0 := Lib.hid (HWa.out.later X7.out.2)
                        have HL0 := Lib.hid (And.intro (bytes_in X7.out.1 rfl) (HBY.out.later X7.out.2))
                        clear hcell7 hcell glt
                        go_loopw [152] (fun u wr => ∃ i : Nat, i ≤ L.length ∧ u = .int .i64 i ∧ Mo W0 o5 mb D2 wr ∧ Wa W0 o5 ys (some ⟨g, 0, none⟩) cw wr ∧ Two p7 L c7 px lx cx wr) (fun u _ => L.length - (intOf u).toNat)
                        case atStart => exact ⟨0, Nat.zero_le _, rfl, HQ0.out, HV0.out, HL0.out⟩
                        case round =>
                          clear HQ0 HV0 HL0 X7 d3 HM HWa
                          obtain ⟨i, hi, rfl, hQ, hV, hT⟩ := hrel
                          have HQ := Lib.hid hQ
                          have HV := Lib.hid hV
                          have HL := Lib.hid hT
                          clear hQ hV hT
                          by_cases t5 : i < L.length
                          · have t4 : i < lx.length := by rw [← HLEN.out]; exact t5
                            obtain ⟨a, ea, ha, hy⟩ := by_row HL.out.1 i t5
                            obtain ⟨b, eb, hb, hz⟩ := by_row HL.out.2 i t4
                            obtain ⟨g', eg', hcell, _, _, _⟩ := HV.out.cell j HIJ.out
                            obtain rfl : g = g' := by injection eg' with e; injection e
                            rw [HEY.out] at hcell
                            simp only at hcell
                            have hc7 := HL.out.1.2.1
                            have hc72 := HL.out.1.2.2.1
                            unfold maxLen at hc72
                            have hLi := HL2.out i t4 t5
                            obtain ⟨⟨yk, yb, ybk, yo, yi⟩, ey⟩ : ∃ x, lx[i] = x := ⟨_, rfl⟩
                            obtain ⟨⟨zk, zb, zbk, zo, zi⟩, ez⟩ : ∃ x, L[i] = x := ⟨_, rfl⟩
                            rw [ey] at hz
                            rw [ez] at hy
                            rw [ey, ez] at hLi
                            subst ea eb
                            obtain ⟨f0, f1, f2, f3, f4⟩ := hy
                            obtain ⟨g0, g1, g2, g3, g4⟩ := hz
                            simp only at f0 f1 f2 f3 f4 g0 g1 g2 g3 g4
                            clear ey ez eg'
                            have t4' : (i : Int) < (lx.length : Int) := by omega
                            have t5' : (i : Int) < (L.length : Int) := by omega
                            have hL := hLi (id)
                            injection hL with i0 i1 i2 i3 i4
                            subst i0 i1 i2 i3 i4
                            clear hLi
                            go_wp2_with fail
                            go_region
                            go_wp2_with fail
                            exact ⟨⟨i + 1, t5, by go_num, HQ.out.later (below_drew (Below.refl _ _)), HV.out.later (below_drew (Below.refl _ _)), HL.out.later (below_drew (Below.refl _ _))⟩, by simp [intOf]; omega⟩
                          · obtain rfl : i = L.length := by omega
                            go_wp2_with fail
                            exact ⟨⟨j + 1, t3, by go_num, HQ.out, HV.out⟩, by simp [intOf]; omega⟩
                      · obtain rfl : j = k := by omega
                        go_wp2_with fail
                        go_ret
                        exact ⟨rfl, HW0.out.trans (HM.out.past.mono HW0.out.size)⟩
                  · have r3 : (vvk == 3) = false := by simpa using q3
                    clear q1 q3
                    go_wp2_with (first
                      | ((with_reducible refine e1.mono ?_); rintro e w5 ⟨rfl, g5⟩; obtain ⟨o5, M5, O5, E5⟩ := HM.out.go g5; have W5 := HWa.out.only O5 E5; have e2' := e2 o5 w5 M5.m; have HM5 := Lib.hid M5; have HW5 := Lib.hid W5; have VB := BV.out.below M5.past BV.out.1; have VT := BT.out.below M5.past BT.out.1; have v0 := VB.get 0 _ rfl; have v1 := VB.get 1 _ rfl; have v2 := VB.get 2 _ rfl; have v3 := VB.get 3 _ rfl; have z0 := VT.get 0 _ rfl; have z1 := VT.get 1 _ rfl; have z2 := VT.get 2 _ rfl; have z3 := VT.get 3 _ rfl; have HVB := Lib.hid VB; clear g5 M5 W5 O5 E5 VB VT)
                      | ((with_reducible refine e2'.mono ?_); rintro e w6 ⟨rfl, hb6⟩; have HM6 := Lib.hid ((HM5.out.later hb6).later (below1 w6 (.cells #[.int .i64 0, .int .u64 0, .int .i64 0, .int .i64 0] 24))); have HW6 := Lib.hid ((HW5.out.later hb6).later (below1 w6 (.cells #[.int .i64 0, .int .u64 0, .int .i64 0, .int .i64 0] 24))); have VB := (HVB.out.later hb6).later (below1 w6 (.cells #[.int .i64 0, .int .u64 0, .int .i64 0, .int .i64 0] 24)); have V18 := Box.new w6 rfl [.int .i64 0, .int .u64 0, .int .i64 0, .int .i64 0] 24; have HV18 := Lib.hid V18; have v0 := VB.get 0 _ rfl; have v1 := VB.get 1 _ rfl; have v2 := VB.get 2 _ rfl; have v3 := VB.get 3 _ rfl; have HVB2 := Lib.hid VB; clear hb6 VB V18)
                      | ((with_reducible refine (e3 _).mono ?_); rintro e w7 ⟨rfl, hb7⟩; have HM7 := Lib.hid ((HM6.out.later hb7).later (below1 w7 (.cells #[.int .i64 nk, .int .u64 nb, .int .i64 nbk, .int .i64 no] 24))); have HW7 := Lib.hid ((HW6.out.later hb7).later (below1 w7 (.cells #[.int .i64 nk, .int .u64 nb, .int .i64 nbk, .int .i64 no] 24))); have VB := (HVB2.out.later hb7); have V18 := HV18.out.later hb7; have v0 := VB.get 0 _ rfl; have v1 := VB.get 1 _ rfl; have v2 := VB.get 2 _ rfl; have v3 := VB.get 3 _ rfl; have y0 := V18.get 0 _ rfl; have y1 := V18.get 1 _ rfl; have y2 := V18.get 2 _ rfl; have y3 := V18.get 3 _ rfl; have VC := VB.alloc (.cells #[.int .i64 nk, .int .u64 nb, .int .i64 nbk, .int .i64 no] 24); have aa0 := VC.get 0 _ rfl; have aa1 := VC.get 1 _ rfl; have aa2 := VC.get 2 _ rfl; have aa3 := VC.get 3 _ rfl; have VD := VB.alloc (.cells #[.int .i64 nk, .int .u64 nb, .int .i64 nbk, .int .i64 no] 24); have bb0 := VD.get 0 _ rfl; have bb1 := VD.get 1 _ rfl; have bb2 := VD.get 2 _ rfl; have bb3 := VD.get 3 _ rfl; have VE := V18.alloc (.cells #[.int .i64 nk, .int .u64 nb, .int .i64 nbk, .int .i64 no] 24); have cc0 := VE.get 0 _ rfl; have cc1 := VE.get 1 _ rfl; have cc2 := VE.get 2 _ rfl; have cc3 := VE.get 3 _ rfl; clear hb7 VB V18 VC VD VE)
                      | ((with_reducible refine (e4 _).mono ?_); rintro e w8 ⟨p8, c8, rfl, hb8⟩))
                    have HM9 := Lib.hid (HM7.out.later hb8)
                    have HW9 := Lib.hid (HW7.out.later hb8)
                    clear HM HWa HM5 HW5 HM6 HW6 HM7 HW7 HVB HVB2 HV18 hb8 e1 e2 e3 e4 e2'
                    go_loopw [22] (fun u wr => ∃ j : Nat, j ≤ k ∧ u = .int .i64 j ∧ Mo W0 o5 mb D2 wr ∧ Wa W0 o5 ys pw cw wr) (fun u _ => k - (intOf u).toNat)
                    case atStart => exact ⟨0, Nat.zero_le _, rfl, HM9.out, HW9.out⟩
                    case round =>
                      clear HM9 HW9
                      obtain ⟨j, hj, rfl, hM, hWa⟩ := hrel
                      have HM := Lib.hid hM
                      have HWa := Lib.hid hWa
                      clear hM hWa
                      by_cases t3 : j < k
                      · have hwk : wf64 (j : Int) := ⟨by omega, by omega⟩
                        have d3 := BytesD o5 mb D2 wr (j : Int) hwk HM.out.m
                        obtain ⟨L, eL⟩ : ∃ L, dBytes D2 (j : Int) = L := ⟨_, rfl⟩
                        rw [eL] at d3
                        have hij : j < ys.length := by rw [HYS.out]; exact t3
                        obtain ⟨g, eg, hcell, hby, hcw1, hcw2⟩ := HWa.out.cell j hij
                        have hyl := HYB.out j hij
                        obtain ⟨⟨px, cx, lx⟩, ey⟩ : ∃ x, ys[j] = x := ⟨_, rfl⟩
                        rw [ey] at hcell hby hyl
                        simp only at hcell hby hyl
                        have hlen : L.length = lx.length := by rw [← eL, HSL.out, hyl]
                        have hL2 : ∀ i (h : i < lx.length) (h' : i < L.length), ¬ (False) → L[i] = lx[i] := fun i h h' hn => by
                          have := HST.out (j : Int) i hn
                          rw [eL, ← hyl, List.getElem?_eq_getElem h, List.getElem?_eq_getElem h'] at this
                          injection this
                        subst eg
                        rw [HYS.out] at hcw1
                        unfold maxLen at hcw2
                        have glt := block_lt hcell
                        have HL2 := Lib.hid hL2
                        have HBY := Lib.hid hby
                        have HLEN := Lib.hid hlen
                        have HIJ := Lib.hid hij
                        have HEY := Lib.hid ey
                        have hlen' : ((L.length : Int) != (lx.length : Int)) = false := by rw [hlen]; simp
                        have hcx := hby.2.1
                        have hcx2 := hby.2.2.1
                        unfold maxLen at hcx2
                        have t3' : (j : Int) < (k : Int) := by omega
                        clear eL hwk ey hyl hby hlen hL2
                        go_wp2_with (first
                          | ((with_reducible refine d3.mono ?_); rintro e w7 ⟨p7, c7, rfl, hr7, hb7⟩; have hcell7 := (hb7.cell (p := ⟨g, j, none⟩) glt).trans hcell; have X7 := Lib.hid (And.intro hr7 hb7); clear hr7 hb7))
                        have HQ0 := Lib.hid (HM.out.later X7.out.2)
                        have HV0 := Lib.hid (HWa.out.later X7.out.2)
                        have HL0 := Lib.hid (And.intro (bytes_in X7.out.1 rfl) (HBY.out.later X7.out.2))
                        clear hcell7 hcell glt
                        go_loopw [152] (fun u wr => ∃ i : Nat, i ≤ L.length ∧ u = .int .i64 i ∧ Mo W0 o5 mb D2 wr ∧ Wa W0 o5 ys (some ⟨g, 0, none⟩) cw wr ∧ Two p7 L c7 px lx cx wr) (fun u _ => L.length - (intOf u).toNat)
                        case atStart => exact ⟨0, Nat.zero_le _, rfl, HQ0.out, HV0.out, HL0.out⟩
                        case round =>
                          clear HQ0 HV0 HL0 X7 d3 HM HWa
                          obtain ⟨i, hi, rfl, hQ, hV, hT⟩ := hrel
                          have HQ := Lib.hid hQ
                          have HV := Lib.hid hV
                          have HL := Lib.hid hT
                          clear hQ hV hT
                          by_cases t5 : i < L.length
                          · have t4 : i < lx.length := by rw [← HLEN.out]; exact t5
                            obtain ⟨a, ea, ha, hy⟩ := by_row HL.out.1 i t5
                            obtain ⟨b, eb, hb, hz⟩ := by_row HL.out.2 i t4
                            obtain ⟨g', eg', hcell, _, _, _⟩ := HV.out.cell j HIJ.out
                            obtain rfl : g = g' := by injection eg' with e; injection e
                            rw [HEY.out] at hcell
                            simp only at hcell
                            have hc7 := HL.out.1.2.1
                            have hc72 := HL.out.1.2.2.1
                            unfold maxLen at hc72
                            have hLi := HL2.out i t4 t5
                            obtain ⟨⟨yk, yb, ybk, yo, yi⟩, ey⟩ : ∃ x, lx[i] = x := ⟨_, rfl⟩
                            obtain ⟨⟨zk, zb, zbk, zo, zi⟩, ez⟩ : ∃ x, L[i] = x := ⟨_, rfl⟩
                            rw [ey] at hz
                            rw [ez] at hy
                            rw [ey, ez] at hLi
                            subst ea eb
                            obtain ⟨f0, f1, f2, f3, f4⟩ := hy
                            obtain ⟨g0, g1, g2, g3, g4⟩ := hz
                            simp only at f0 f1 f2 f3 f4 g0 g1 g2 g3 g4
                            clear ey ez eg'
                            have t4' : (i : Int) < (lx.length : Int) := by omega
                            have t5' : (i : Int) < (L.length : Int) := by omega
                            have hL := hLi (id)
                            injection hL with i0 i1 i2 i3 i4
                            subst i0 i1 i2 i3 i4
                            clear hLi
                            go_wp2_with fail
                            go_region
                            go_wp2_with fail
                            exact ⟨⟨i + 1, t5, by go_num, HQ.out.later (below_drew (Below.refl _ _)), HV.out.later (below_drew (Below.refl _ _)), HL.out.later (below_drew (Below.refl _ _))⟩, by simp [intOf]; omega⟩
                          · obtain rfl : i = L.length := by omega
                            go_wp2_with fail
                            exact ⟨⟨j + 1, t3, by go_num, HQ.out, HV.out⟩, by simp [intOf]; omega⟩
                      · obtain rfl : j = k := by omega
                        go_wp2_with fail
                        go_ret
                        exact ⟨rfl, HW0.out.trans (HM.out.past.mono HW0.out.size)⟩
                · have r1 : (tt == 65) = false := by simpa using q1
                  clear q1
                  go_wp2_with (first
                    | ((with_reducible refine e1.mono ?_); rintro e w5 ⟨rfl, g5⟩; obtain ⟨o5, M5, O5, E5⟩ := HM.out.go g5; have W5 := HWa.out.only O5 E5; have e2' := e2 o5 w5 M5.m; have HM5 := Lib.hid M5; have HW5 := Lib.hid W5; have VB := BV.out.below M5.past BV.out.1; have VT := BT.out.below M5.past BT.out.1; have v0 := VB.get 0 _ rfl; have v1 := VB.get 1 _ rfl; have v2 := VB.get 2 _ rfl; have v3 := VB.get 3 _ rfl; have z0 := VT.get 0 _ rfl; have z1 := VT.get 1 _ rfl; have z2 := VT.get 2 _ rfl; have z3 := VT.get 3 _ rfl; have HVB := Lib.hid VB; clear g5 M5 W5 O5 E5 VB VT)
                    | ((with_reducible refine e2'.mono ?_); rintro e w6 ⟨rfl, hb6⟩; have HM6 := Lib.hid ((HM5.out.later hb6).later (below1 w6 (.cells #[.int .i64 0, .int .u64 0, .int .i64 0, .int .i64 0] 24))); have HW6 := Lib.hid ((HW5.out.later hb6).later (below1 w6 (.cells #[.int .i64 0, .int .u64 0, .int .i64 0, .int .i64 0] 24))); have VB := (HVB.out.later hb6).later (below1 w6 (.cells #[.int .i64 0, .int .u64 0, .int .i64 0, .int .i64 0] 24)); have V18 := Box.new w6 rfl [.int .i64 0, .int .u64 0, .int .i64 0, .int .i64 0] 24; have HV18 := Lib.hid V18; have v0 := VB.get 0 _ rfl; have v1 := VB.get 1 _ rfl; have v2 := VB.get 2 _ rfl; have v3 := VB.get 3 _ rfl; have HVB2 := Lib.hid VB; clear hb6 VB V18)
                    | ((with_reducible refine (e3 _).mono ?_); rintro e w7 ⟨rfl, hb7⟩; have HM7 := Lib.hid ((HM6.out.later hb7).later (below1 w7 (.cells #[.int .i64 nk, .int .u64 nb, .int .i64 nbk, .int .i64 no] 24))); have HW7 := Lib.hid ((HW6.out.later hb7).later (below1 w7 (.cells #[.int .i64 nk, .int .u64 nb, .int .i64 nbk, .int .i64 no] 24))); have VB := (HVB2.out.later hb7); have V18 := HV18.out.later hb7; have v0 := VB.get 0 _ rfl; have v1 := VB.get 1 _ rfl; have v2 := VB.get 2 _ rfl; have v3 := VB.get 3 _ rfl; have y0 := V18.get 0 _ rfl; have y1 := V18.get 1 _ rfl; have y2 := V18.get 2 _ rfl; have y3 := V18.get 3 _ rfl; have VC := VB.alloc (.cells #[.int .i64 nk, .int .u64 nb, .int .i64 nbk, .int .i64 no] 24); have aa0 := VC.get 0 _ rfl; have aa1 := VC.get 1 _ rfl; have aa2 := VC.get 2 _ rfl; have aa3 := VC.get 3 _ rfl; have VD := VB.alloc (.cells #[.int .i64 nk, .int .u64 nb, .int .i64 nbk, .int .i64 no] 24); have bb0 := VD.get 0 _ rfl; have bb1 := VD.get 1 _ rfl; have bb2 := VD.get 2 _ rfl; have bb3 := VD.get 3 _ rfl; have VE := V18.alloc (.cells #[.int .i64 nk, .int .u64 nb, .int .i64 nbk, .int .i64 no] 24); have cc0 := VE.get 0 _ rfl; have cc1 := VE.get 1 _ rfl; have cc2 := VE.get 2 _ rfl; have cc3 := VE.get 3 _ rfl; clear hb7 VB V18 VC VD VE)
                    | ((with_reducible refine (e4 _).mono ?_); rintro e w8 ⟨p8, c8, rfl, hb8⟩))
                  have HM9 := Lib.hid (HM7.out.later hb8)
                  have HW9 := Lib.hid (HW7.out.later hb8)
                  clear HM HWa HM5 HW5 HM6 HW6 HM7 HW7 HVB HVB2 HV18 hb8 e1 e2 e3 e4 e2'
                  go_loopw [22] (fun u wr => ∃ j : Nat, j ≤ k ∧ u = .int .i64 j ∧ Mo W0 o5 mb D2 wr ∧ Wa W0 o5 ys pw cw wr) (fun u _ => k - (intOf u).toNat)
                  case atStart => exact ⟨0, Nat.zero_le _, rfl, HM9.out, HW9.out⟩
                  case round =>
                    clear HM9 HW9
                    obtain ⟨j, hj, rfl, hM, hWa⟩ := hrel
                    have HM := Lib.hid hM
                    have HWa := Lib.hid hWa
                    clear hM hWa
                    by_cases t3 : j < k
                    · have hwk : wf64 (j : Int) := ⟨by omega, by omega⟩
                      have d3 := BytesD o5 mb D2 wr (j : Int) hwk HM.out.m
                      obtain ⟨L, eL⟩ : ∃ L, dBytes D2 (j : Int) = L := ⟨_, rfl⟩
                      rw [eL] at d3
                      have hij : j < ys.length := by rw [HYS.out]; exact t3
                      obtain ⟨g, eg, hcell, hby, hcw1, hcw2⟩ := HWa.out.cell j hij
                      have hyl := HYB.out j hij
                      obtain ⟨⟨px, cx, lx⟩, ey⟩ : ∃ x, ys[j] = x := ⟨_, rfl⟩
                      rw [ey] at hcell hby hyl
                      simp only at hcell hby hyl
                      have hlen : L.length = lx.length := by rw [← eL, HSL.out, hyl]
                      have hL2 : ∀ i (h : i < lx.length) (h' : i < L.length), ¬ (False) → L[i] = lx[i] := fun i h h' hn => by
                        have := HST.out (j : Int) i hn
                        rw [eL, ← hyl, List.getElem?_eq_getElem h, List.getElem?_eq_getElem h'] at this
                        injection this
                      subst eg
                      rw [HYS.out] at hcw1
                      unfold maxLen at hcw2
                      have glt := block_lt hcell
                      have HL2 := Lib.hid hL2
                      have HBY := Lib.hid hby
                      have HLEN := Lib.hid hlen
                      have HIJ := Lib.hid hij
                      have HEY := Lib.hid ey
                      have hlen' : ((L.length : Int) != (lx.length : Int)) = false := by rw [hlen]; simp
                      have hcx := hby.2.1
                      have hcx2 := hby.2.2.1
                      unfold maxLen at hcx2
                      have t3' : (j : Int) < (k : Int) := by omega
                      clear eL hwk ey hyl hby hlen hL2
                      go_wp2_with (first
                        | ((with_reducible refine d3.mono ?_); rintro e w7 ⟨p7, c7, rfl, hr7, hb7⟩; have hcell7 := (hb7.cell (p := ⟨g, j, none⟩) glt).trans hcell; have X7 := Lib.hid (And.intro hr7 hb7); clear hr7 hb7))
                      have HQ0 := Lib.hid (HM.out.later X7.out.2)
                      have HV0 := Lib.hid (HWa.out.later X7.out.2)
                      have HL0 := Lib.hid (And.intro (bytes_in X7.out.1 rfl) (HBY.out.later X7.out.2))
                      clear hcell7 hcell glt
                      go_loopw [152] (fun u wr => ∃ i : Nat, i ≤ L.length ∧ u = .int .i64 i ∧ Mo W0 o5 mb D2 wr ∧ Wa W0 o5 ys (some ⟨g, 0, none⟩) cw wr ∧ Two p7 L c7 px lx cx wr) (fun u _ => L.length - (intOf u).toNat)
                      case atStart => exact ⟨0, Nat.zero_le _, rfl, HQ0.out, HV0.out, HL0.out⟩
                      case round =>
                        clear HQ0 HV0 HL0 X7 d3 HM HWa
                        obtain ⟨i, hi, rfl, hQ, hV, hT⟩ := hrel
                        have HQ := Lib.hid hQ
                        have HV := Lib.hid hV
                        have HL := Lib.hid hT
                        clear hQ hV hT
                        by_cases t5 : i < L.length
                        · have t4 : i < lx.length := by rw [← HLEN.out]; exact t5
                          obtain ⟨a, ea, ha, hy⟩ := by_row HL.out.1 i t5
                          obtain ⟨b, eb, hb, hz⟩ := by_row HL.out.2 i t4
                          obtain ⟨g', eg', hcell, _, _, _⟩ := HV.out.cell j HIJ.out
                          obtain rfl : g = g' := by injection eg' with e; injection e
                          rw [HEY.out] at hcell
                          simp only at hcell
                          have hc7 := HL.out.1.2.1
                          have hc72 := HL.out.1.2.2.1
                          unfold maxLen at hc72
                          have hLi := HL2.out i t4 t5
                          obtain ⟨⟨yk, yb, ybk, yo, yi⟩, ey⟩ : ∃ x, lx[i] = x := ⟨_, rfl⟩
                          obtain ⟨⟨zk, zb, zbk, zo, zi⟩, ez⟩ : ∃ x, L[i] = x := ⟨_, rfl⟩
                          rw [ey] at hz
                          rw [ez] at hy
                          rw [ey, ez] at hLi
                          subst ea eb
                          obtain ⟨f0, f1, f2, f3, f4⟩ := hy
                          obtain ⟨g0, g1, g2, g3, g4⟩ := hz
                          simp only at f0 f1 f2 f3 f4 g0 g1 g2 g3 g4
                          clear ey ez eg'
                          have t4' : (i : Int) < (lx.length : Int) := by omega
                          have t5' : (i : Int) < (L.length : Int) := by omega
                          have hL := hLi (id)
                          injection hL with i0 i1 i2 i3 i4
                          subst i0 i1 i2 i3 i4
                          clear hLi
                          go_wp2_with fail
                          go_region
                          go_wp2_with fail
                          exact ⟨⟨i + 1, t5, by go_num, HQ.out.later (below_drew (Below.refl _ _)), HV.out.later (below_drew (Below.refl _ _)), HL.out.later (below_drew (Below.refl _ _))⟩, by simp [intOf]; omega⟩
                        · obtain rfl : i = L.length := by omega
                          go_wp2_with fail
                          exact ⟨⟨j + 1, t3, by go_num, HQ.out, HV.out⟩, by simp [intOf]; omega⟩
                    · obtain rfl : j = k := by omega
                      go_wp2_with fail
                      go_ret
                      exact ⟨rfl, HW0.out.trans (HM.out.past.mono HW0.out.size)⟩
              · skip
                obtain ⟨⟨nk, nb, nbk, no⟩, en⟩ : ∃ n, norm tt ⟨vvk, vvb, vvbk, vvo⟩ = n := ⟨_, rfl⟩
                obtain ⟨N, eN⟩ : ∃ N, wd tt = N := ⟨_, rfl⟩
                have hN := wd_le tt
                have VB := BV.out.below HM.out.past BV.out.1
                have VT := BT.out.below HM.out.past BT.out.1
                have v0 := VB.get 0 _ rfl; have v1 := VB.get 1 _ rfl; have v2 := VB.get 2 _ rfl; have v3 := VB.get 3 _ rfl
                have z0 := VT.get 0 _ rfl; have z1 := VT.get 1 _ rfl; have z2 := VT.get 2 _ rfl; have z3 := VT.get 3 _ rfl
                obtain ⟨D2, eD2⟩ : ∃ D2, dStore D tt ⟨vvk, vvb, vvbk, vvo⟩ ⟨tk, tb, tbk, tof⟩ = D2 := ⟨_, rfl⟩
                have e1 : Calls Try.prog 24 #[.pointer (some ⟨mb, 0, none⟩), .int .i64 tt, .agg #[.int .i64 vvk, .int .u64 vvb, .int .i64 vvbk, .int .i64 vvo], .agg #[.int .i64 tk, .int .u64 tb, .int .i64 tbk, .int .i64 tof]] wr fun e w' => e = .returned (.bool true) ∧ GoesD o mb D2 wr w' := by
                  have := StoreD o mb D wr tt ⟨vvk, vvb, vvbk, vvo⟩ ⟨tk, tb, tbk, tof⟩ HVV.out.1 HVV.out.2.1 HTV.out.2.1 HTV.out.2.2.1 HM.out.m
                  rw [hin] at this
                  rw [← eD2]
                  exact this
                have e3 : ∀ w, Calls Try.prog 15 #[.int .i64 tt, .agg #[.int .i64 vvk, .int .u64 vvb, .int .i64 vvbk, .int .i64 vvo]] w fun e w' => e = .returned (.agg #[.int .i64 nk, .int .u64 nb, .int .i64 nbk, .int .i64 no]) ∧ Below w.heap.size w w' := fun w => by
                  have := Norm_any tt ⟨vvk, vvb, vvbk, vvo⟩ w HVV.out.1
                  rw [en] at this
                  exact this
                have e4 : ∀ w, Calls Try.prog 10 #[.int .i64 tt, .agg #[.int .i64 vvk, .int .u64 vvb, .int .i64 vvbk, .int .i64 vvo]] w fun e w' => ∃ p c, e = .returned (.slice p N c) ∧ Below w.heap.size w w' := fun w => by
                  have := Pack_any tt ⟨vvk, vvb, vvbk, vvo⟩ w HVV.out.1
                  rw [eN] at this
                  refine this.mono ?_
                  rintro e w' ⟨p, c, rfl, _, hb⟩
                  exact ⟨p, c, rfl, hb⟩
                rw [eN] at hN
                have HSL : Hid (∀ j : Int, (dBytes D2 j).length = (dBytes D j).length) := Lib.hid (fun j => by rw [← eD2]; exact store_len hin j)
                have HST : Hid (∀ (j : Int) (i : Nat), ¬ (j = tbk ∧ tof ≤ (i : Int) ∧ (i : Int) < tof + N) → (dBytes D2 j)[i]? = (dBytes D j)[i]?) := Lib.hid (fun j i hn => by rw [← eD2]; exact store_stays hin j i (by rw [eN]; exact hn))
                have HIN : Hid (0 ≤ tof ∧ tof + (N : Int) ≤ ((dBytes D tbk).length : Int)) := Lib.hid (by
                  obtain ⟨l, hl, _, _, h0, h1⟩ := dIn_at hin
                  rw [eN] at h1
                  refine ⟨h0, ?_⟩
                  have : dBytes D tbk = l := by unfold dBytes; rw [hl]
                  rw [this]; exact h1)
                have hbk := store_load (x := ⟨vvk, vvb, vvbk, vvo⟩) hin
                rw [eD2] at hbk
                by_cases q1 : tt = 65
                · have r1 : (tt == 65) = true := by rw [q1]; rfl
                  by_cases q3 : vvk = 3
                  · have r3 : (vvk == 3) = true := by rw [q3]; rfl
                    have hb : back tt ⟨vvk, vvb, vvbk, vvo⟩ = ⟨0, 0, 0, 0⟩ := by unfold back; rw [if_pos ⟨q1, q3⟩]; rfl
                    rw [hb] at hbk
                    have e2 : ∀ o w, MemD o mb D2 w → Calls Try.prog 26 #[.pointer (some ⟨mb, 0, none⟩), .int .i64 tt, .agg #[.int .i64 tk, .int .u64 tb, .int .i64 tbk, .int .i64 tof]] w fun e w' => e = .returned (.tuple #[.agg #[.int .i64 0, .int .u64 0, .int .i64 0, .int .i64 0], .bool true]) ∧ Below w.heap.size w w' := fun o w h => by
                      have := LoadD o mb D2 w tt ⟨tk, tb, tbk, tof⟩ HTV.out.2.1 HTV.out.2.2.1 h
                      rw [hbk, ← eD2, store_in hin] at this
                      exact this
                    clear en eN eD2 hin VB VT hk t2 hb hbk
                    clear q1 q3
                    go_wp2_with (first
                      | ((with_reducible refine e1.mono ?_); rintro e w5 ⟨rfl, g5⟩; obtain ⟨o5, M5, O5, E5⟩ := HM.out.go g5; have W5 := HWa.out.only O5 E5; have e2' := e2 o5 w5 M5.m; have HM5 := Lib.hid M5; have HW5 := Lib.hid W5; have VB := BV.out.below M5.past BV.out.1; have VT := BT.out.below M5.past BT.out.1; have v0 := VB.get 0 _ rfl; have v1 := VB.get 1 _ rfl; have v2 := VB.get 2 _ rfl; have v3 := VB.get 3 _ rfl; have z0 := VT.get 0 _ rfl; have z1 := VT.get 1 _ rfl; have z2 := VT.get 2 _ rfl; have z3 := VT.get 3 _ rfl; have HVB := Lib.hid VB; clear g5 M5 W5 O5 E5 VB VT)
                      | ((with_reducible refine e2'.mono ?_); rintro e w6 ⟨rfl, hb6⟩; have HM6 := Lib.hid ((HM5.out.later hb6).later (below1 w6 (.cells #[.int .i64 0, .int .u64 0, .int .i64 0, .int .i64 0] 24))); have HW6 := Lib.hid ((HW5.out.later hb6).later (below1 w6 (.cells #[.int .i64 0, .int .u64 0, .int .i64 0, .int .i64 0] 24))); have VB := (HVB.out.later hb6).later (below1 w6 (.cells #[.int .i64 0, .int .u64 0, .int .i64 0, .int .i64 0] 24)); have V18 := Box.new w6 rfl [.int .i64 0, .int .u64 0, .int .i64 0, .int .i64 0] 24; have HV18 := Lib.hid V18; have v0 := VB.get 0 _ rfl; have v1 := VB.get 1 _ rfl; have v2 := VB.get 2 _ rfl; have v3 := VB.get 3 _ rfl; have HVB2 := Lib.hid VB; clear hb6 VB V18)
                      | ((with_reducible refine (e3 _).mono ?_); rintro e w7 ⟨rfl, hb7⟩; have HM7 := Lib.hid ((HM6.out.later hb7).later (below1 w7 (.cells #[.int .i64 0, .int .u64 0, .int .i64 0, .int .i64 0] 24))); have HW7 := Lib.hid ((HW6.out.later hb7).later (below1 w7 (.cells #[.int .i64 0, .int .u64 0, .int .i64 0, .int .i64 0] 24))); have VB := (HVB2.out.later hb7); have V18 := HV18.out.later hb7; have v0 := VB.get 0 _ rfl; have v1 := VB.get 1 _ rfl; have v2 := VB.get 2 _ rfl; have v3 := VB.get 3 _ rfl; have y0 := V18.get 0 _ rfl; have y1 := V18.get 1 _ rfl; have y2 := V18.get 2 _ rfl; have y3 := V18.get 3 _ rfl; have VC := VB.alloc (.cells #[.int .i64 nk, .int .u64 nb, .int .i64 nbk, .int .i64 no] 24); have aa0 := VC.get 0 _ rfl; have aa1 := VC.get 1 _ rfl; have aa2 := VC.get 2 _ rfl; have aa3 := VC.get 3 _ rfl; have VD := VB.alloc (.cells #[.int .i64 0, .int .u64 0, .int .i64 0, .int .i64 0] 24); have bb0 := VD.get 0 _ rfl; have bb1 := VD.get 1 _ rfl; have bb2 := VD.get 2 _ rfl; have bb3 := VD.get 3 _ rfl; have VE := V18.alloc (.cells #[.int .i64 0, .int .u64 0, .int .i64 0, .int .i64 0] 24); have cc0 := VE.get 0 _ rfl; have cc1 := VE.get 1 _ rfl; have cc2 := VE.get 2 _ rfl; have cc3 := VE.get 3 _ rfl; clear hb7 VB V18 VC VD VE)
                      | ((with_reducible refine (e4 _).mono ?_); rintro e w8 ⟨p8, c8, rfl, hb8⟩))
                    have HM9 := Lib.hid (HM7.out.later hb8)
                    have HW9 := Lib.hid (HW7.out.later hb8)
                    clear HM HWa HM5 HW5 HM6 HW6 HM7 HW7 HVB HVB2 HV18 hb8 e1 e2 e3 e4 e2'
                    go_loopw [22] (fun u wr => ∃ j : Nat, j ≤ k ∧ u = .int .i64 j ∧ Mo W0 o5 mb D2 wr ∧ Wa W0 o5 ys pw cw wr) (fun u _ => k - (intOf u).toNat)
                    case atStart => exact ⟨0, Nat.zero_le _, rfl, HM9.out, HW9.out⟩
                    case round =>
                      clear HM9 HW9
                      obtain ⟨j, hj, rfl, hM, hWa⟩ := hrel
                      have HM := Lib.hid hM
                      have HWa := Lib.hid hWa
                      clear hM hWa
                      by_cases t3 : j < k
                      · have hwk : wf64 (j : Int) := ⟨by omega, by omega⟩
                        have d3 := BytesD o5 mb D2 wr (j : Int) hwk HM.out.m
                        obtain ⟨L, eL⟩ : ∃ L, dBytes D2 (j : Int) = L := ⟨_, rfl⟩
                        rw [eL] at d3
                        have hij : j < ys.length := by rw [HYS.out]; exact t3
                        obtain ⟨g, eg, hcell, hby, hcw1, hcw2⟩ := HWa.out.cell j hij
                        have hyl := HYB.out j hij
                        obtain ⟨⟨px, cx, lx⟩, ey⟩ : ∃ x, ys[j] = x := ⟨_, rfl⟩
                        rw [ey] at hcell hby hyl
                        simp only at hcell hby hyl
                        have hlen : L.length = lx.length := by rw [← eL, HSL.out, hyl]
                        have hL2 : ∀ i (h : i < lx.length) (h' : i < L.length), ¬ ((j : Int) = tbk ∧ tof ≤ (i : Int) ∧ (i : Int) < tof + N) → L[i] = lx[i] := fun i h h' hn => by
                          have := HST.out (j : Int) i hn
                          rw [eL, ← hyl, List.getElem?_eq_getElem h, List.getElem?_eq_getElem h'] at this
                          injection this
                        subst eg
                        rw [HYS.out] at hcw1
                        unfold maxLen at hcw2
                        have glt := block_lt hcell
                        have HL2 := Lib.hid hL2
                        have HBY := Lib.hid hby
                        have HLEN := Lib.hid hlen
                        have HIJ := Lib.hid hij
                        have HEY := Lib.hid ey
                        have hjl : (j : Int) = tbk → (lx.length : Int) = ((dBytes D tbk).length : Int) := fun e => by rw [hyl, e]
                        have HJL := Lib.hid hjl
                        clear hjl
                        have hlen' : ((L.length : Int) != (lx.length : Int)) = false := by rw [hlen]; simp
                        have hcx := hby.2.1
                        have hcx2 := hby.2.2.1
                        unfold maxLen at hcx2
                        have t3' : (j : Int) < (k : Int) := by omega
                        clear eL hwk ey hyl hby hlen hL2
                        go_wp2_with (first
                          | ((with_reducible refine d3.mono ?_); rintro e w7 ⟨p7, c7, rfl, hr7, hb7⟩; have hcell7 := (hb7.cell (p := ⟨g, j, none⟩) glt).trans hcell; have X7 := Lib.hid (And.intro hr7 hb7); clear hr7 hb7))
                        have HQ0 := Lib.hid (HM.out.later X7.out.2)
                        have HV0 := Lib.hid (HWa.out.later X7.out.2)
                        have HL0 := Lib.hid (And.intro (bytes_in X7.out.1 rfl) (HBY.out.later X7.out.2))
                        clear hcell7 hcell glt
                        go_loopw [152] (fun u wr => ∃ i : Nat, i ≤ L.length ∧ u = .int .i64 i ∧ Mo W0 o5 mb D2 wr ∧ Wa W0 o5 ys (some ⟨g, 0, none⟩) cw wr ∧ Two p7 L c7 px lx cx wr) (fun u _ => L.length - (intOf u).toNat)
                        case atStart => exact ⟨0, Nat.zero_le _, rfl, HQ0.out, HV0.out, HL0.out⟩
                        case round =>
                          clear HQ0 HV0 HL0 X7 d3 HM HWa
                          obtain ⟨i, hi, rfl, hQ, hV, hT⟩ := hrel
                          have HQ := Lib.hid hQ
                          have HV := Lib.hid hV
                          have HL := Lib.hid hT
                          clear hQ hV hT
                          by_cases t5 : i < L.length
                          · have t4 : i < lx.length := by rw [← HLEN.out]; exact t5
                            obtain ⟨a, ea, ha, hy⟩ := by_row HL.out.1 i t5
                            obtain ⟨b, eb, hb, hz⟩ := by_row HL.out.2 i t4
                            obtain ⟨g', eg', hcell, _, _, _⟩ := HV.out.cell j HIJ.out
                            obtain rfl : g = g' := by injection eg' with e; injection e
                            rw [HEY.out] at hcell
                            simp only at hcell
                            have hc7 := HL.out.1.2.1
                            have hc72 := HL.out.1.2.2.1
                            unfold maxLen at hc72
                            have hLi := HL2.out i t4 t5
                            obtain ⟨⟨yk, yb, ybk, yo, yi⟩, ey⟩ : ∃ x, lx[i] = x := ⟨_, rfl⟩
                            obtain ⟨⟨zk, zb, zbk, zo, zi⟩, ez⟩ : ∃ x, L[i] = x := ⟨_, rfl⟩
                            rw [ey] at hz
                            rw [ez] at hy
                            rw [ey, ez] at hLi
                            subst ea eb
                            obtain ⟨f0, f1, f2, f3, f4⟩ := hy
                            obtain ⟨g0, g1, g2, g3, g4⟩ := hz
                            simp only at f0 f1 f2 f3 f4 g0 g1 g2 g3 g4
                            clear ey ez eg'
                            have t4' : (i : Int) < (lx.length : Int) := by omega
                            have t5' : (i : Int) < (L.length : Int) := by omega
                            have BT' := BT.out.below HQ.out.past BT.out.1
                            have z2 := BT'.get 2 _ rfl
                            have z3 := BT'.get 3 _ rfl
                            clear BT'
                            by_cases h1 : (j : Int) = tbk
                            · have h1' : ((j : Int) == tbk) = true := by rw [h1]; simp
                              have hin := HIN.out
                              have hjl := HJL.out h1
                              have hjb := h1
                              have ew : IntKind.i64.wrap (tof + (N : Int)) = tof + (N : Int) := by rw [IntKind.wrap_i64]; omega
                              have HJB := Lib.hid hjb
                              clear h1 hjb hjl
                              by_cases h2 : tof ≤ (i : Int)
                              · by_cases h3 : (i : Int) < tof + (N : Int)
                                · clear hLi hin
                                  go_wp2_with fail
                                  go_region
                                  go_wp2_with fail
                                  exact ⟨⟨i + 1, t5, by go_num, HQ.out.later (below_drew (Below.refl _ _)), HV.out.later (below_drew (Below.refl _ _)), HL.out.later (below_drew (Below.refl _ _))⟩, by simp [intOf]; omega⟩
                                · have h3' : tof + (N : Int) ≤ (i : Int) := by omega
                                  clear hin
                                  have hL := hLi (fun x => absurd x.2.2 (by omega))
                                  injection hL with i0 i1 i2 i3 i4
                                  subst i0 i1 i2 i3 i4
                                  clear hLi
                                  go_wp2_with fail
                                  go_region
                                  go_wp2_with fail
                                  exact ⟨⟨i + 1, t5, by go_num, HQ.out.later (below_drew (Below.refl _ _)), HV.out.later (below_drew (Below.refl _ _)), HL.out.later (below_drew (Below.refl _ _))⟩, by simp [intOf]; omega⟩
                              · have h2' : (i : Int) < tof := by omega
                                clear hin ew
                                have hL := hLi (fun x => absurd x.2.1 (by omega))
                                injection hL with i0 i1 i2 i3 i4
                                subst i0 i1 i2 i3 i4
                                clear hLi
                                go_wp2_with fail
                                go_region
                                go_wp2_with fail
                                exact ⟨⟨i + 1, t5, by go_num, HQ.out.later (below_drew (Below.refl _ _)), HV.out.later (below_drew (Below.refl _ _)), HL.out.later (below_drew (Below.refl _ _))⟩, by simp [intOf]; omega⟩
                            · have h1' : ((j : Int) == tbk) = false := by simpa using h1
                              have hL := hLi (fun x => h1 x.1)
                              injection hL with i0 i1 i2 i3 i4
                              subst i0 i1 i2 i3 i4
                              clear hLi
                              go_wp2_with fail
                              go_region
                              go_wp2_with fail
                              exact ⟨⟨i + 1, t5, by go_num, HQ.out.later (below_drew (Below.refl _ _)), HV.out.later (below_drew (Below.refl _ _)), HL.out.later (below_drew (Below.refl _ _))⟩, by simp [intOf]; omega⟩
                          · obtain rfl : i = L.length := by omega
                            go_wp2_with fail
                            exact ⟨⟨j + 1, t3, by go_num, HQ.out, HV.out⟩, by simp [intOf]; omega⟩
                      · obtain rfl : j = k := by omega
                        go_wp2_with fail
                        go_ret
                        exact ⟨rfl, HW0.out.trans (HM.out.past.mono HW0.out.size)⟩
                  · have r3 : (vvk == 3) = false := by simpa using q3
                    have hb : back tt ⟨vvk, vvb, vvbk, vvo⟩ = ⟨nk, nb, nbk, no⟩ := by unfold back; rw [if_neg (fun x => q3 x.2)]; exact en
                    rw [hb] at hbk
                    have e2 : ∀ o w, MemD o mb D2 w → Calls Try.prog 26 #[.pointer (some ⟨mb, 0, none⟩), .int .i64 tt, .agg #[.int .i64 tk, .int .u64 tb, .int .i64 tbk, .int .i64 tof]] w fun e w' => e = .returned (.tuple #[.agg #[.int .i64 nk, .int .u64 nb, .int .i64 nbk, .int .i64 no], .bool true]) ∧ Below w.heap.size w w' := fun o w h => by
                      have := LoadD o mb D2 w tt ⟨tk, tb, tbk, tof⟩ HTV.out.2.1 HTV.out.2.2.1 h
                      rw [hbk, ← eD2, store_in hin] at this
                      exact this
                    clear en eN eD2 hin VB VT hk t2 hb hbk
                    clear q1 q3
                    go_wp2_with (first
                      | ((with_reducible refine e1.mono ?_); rintro e w5 ⟨rfl, g5⟩; obtain ⟨o5, M5, O5, E5⟩ := HM.out.go g5; have W5 := HWa.out.only O5 E5; have e2' := e2 o5 w5 M5.m; have HM5 := Lib.hid M5; have HW5 := Lib.hid W5; have VB := BV.out.below M5.past BV.out.1; have VT := BT.out.below M5.past BT.out.1; have v0 := VB.get 0 _ rfl; have v1 := VB.get 1 _ rfl; have v2 := VB.get 2 _ rfl; have v3 := VB.get 3 _ rfl; have z0 := VT.get 0 _ rfl; have z1 := VT.get 1 _ rfl; have z2 := VT.get 2 _ rfl; have z3 := VT.get 3 _ rfl; have HVB := Lib.hid VB; clear g5 M5 W5 O5 E5 VB VT)
                      | ((with_reducible refine e2'.mono ?_); rintro e w6 ⟨rfl, hb6⟩; have HM6 := Lib.hid ((HM5.out.later hb6).later (below1 w6 (.cells #[.int .i64 nk, .int .u64 nb, .int .i64 nbk, .int .i64 no] 24))); have HW6 := Lib.hid ((HW5.out.later hb6).later (below1 w6 (.cells #[.int .i64 nk, .int .u64 nb, .int .i64 nbk, .int .i64 no] 24))); have VB := (HVB.out.later hb6).later (below1 w6 (.cells #[.int .i64 nk, .int .u64 nb, .int .i64 nbk, .int .i64 no] 24)); have V18 := Box.new w6 rfl [.int .i64 nk, .int .u64 nb, .int .i64 nbk, .int .i64 no] 24; have HV18 := Lib.hid V18; have v0 := VB.get 0 _ rfl; have v1 := VB.get 1 _ rfl; have v2 := VB.get 2 _ rfl; have v3 := VB.get 3 _ rfl; have HVB2 := Lib.hid VB; clear hb6 VB V18)
                      | ((with_reducible refine (e3 _).mono ?_); rintro e w7 ⟨rfl, hb7⟩; have HM7 := Lib.hid ((HM6.out.later hb7).later (below1 w7 (.cells #[.int .i64 nk, .int .u64 nb, .int .i64 nbk, .int .i64 no] 24))); have HW7 := Lib.hid ((HW6.out.later hb7).later (below1 w7 (.cells #[.int .i64 nk, .int .u64 nb, .int .i64 nbk, .int .i64 no] 24))); have VB := (HVB2.out.later hb7); have V18 := HV18.out.later hb7; have v0 := VB.get 0 _ rfl; have v1 := VB.get 1 _ rfl; have v2 := VB.get 2 _ rfl; have v3 := VB.get 3 _ rfl; have y0 := V18.get 0 _ rfl; have y1 := V18.get 1 _ rfl; have y2 := V18.get 2 _ rfl; have y3 := V18.get 3 _ rfl; have VC := VB.alloc (.cells #[.int .i64 nk, .int .u64 nb, .int .i64 nbk, .int .i64 no] 24); have aa0 := VC.get 0 _ rfl; have aa1 := VC.get 1 _ rfl; have aa2 := VC.get 2 _ rfl; have aa3 := VC.get 3 _ rfl; have VD := VB.alloc (.cells #[.int .i64 nk, .int .u64 nb, .int .i64 nbk, .int .i64 no] 24); have bb0 := VD.get 0 _ rfl; have bb1 := VD.get 1 _ rfl; have bb2 := VD.get 2 _ rfl; have bb3 := VD.get 3 _ rfl; have VE := V18.alloc (.cells #[.int .i64 nk, .int .u64 nb, .int .i64 nbk, .int .i64 no] 24); have cc0 := VE.get 0 _ rfl; have cc1 := VE.get 1 _ rfl; have cc2 := VE.get 2 _ rfl; have cc3 := VE.get 3 _ rfl; clear hb7 VB V18 VC VD VE)
                      | ((with_reducible refine (e4 _).mono ?_); rintro e w8 ⟨p8, c8, rfl, hb8⟩))
                    have HM9 := Lib.hid (HM7.out.later hb8)
                    have HW9 := Lib.hid (HW7.out.later hb8)
                    clear HM HWa HM5 HW5 HM6 HW6 HM7 HW7 HVB HVB2 HV18 hb8 e1 e2 e3 e4 e2'
                    go_loopw [22] (fun u wr => ∃ j : Nat, j ≤ k ∧ u = .int .i64 j ∧ Mo W0 o5 mb D2 wr ∧ Wa W0 o5 ys pw cw wr) (fun u _ => k - (intOf u).toNat)
                    case atStart => exact ⟨0, Nat.zero_le _, rfl, HM9.out, HW9.out⟩
                    case round =>
                      clear HM9 HW9
                      obtain ⟨j, hj, rfl, hM, hWa⟩ := hrel
                      have HM := Lib.hid hM
                      have HWa := Lib.hid hWa
                      clear hM hWa
                      by_cases t3 : j < k
                      · have hwk : wf64 (j : Int) := ⟨by omega, by omega⟩
                        have d3 := BytesD o5 mb D2 wr (j : Int) hwk HM.out.m
                        obtain ⟨L, eL⟩ : ∃ L, dBytes D2 (j : Int) = L := ⟨_, rfl⟩
                        rw [eL] at d3
                        have hij : j < ys.length := by rw [HYS.out]; exact t3
                        obtain ⟨g, eg, hcell, hby, hcw1, hcw2⟩ := HWa.out.cell j hij
                        have hyl := HYB.out j hij
                        obtain ⟨⟨px, cx, lx⟩, ey⟩ : ∃ x, ys[j] = x := ⟨_, rfl⟩
                        rw [ey] at hcell hby hyl
                        simp only at hcell hby hyl
                        have hlen : L.length = lx.length := by rw [← eL, HSL.out, hyl]
                        have hL2 : ∀ i (h : i < lx.length) (h' : i < L.length), ¬ ((j : Int) = tbk ∧ tof ≤ (i : Int) ∧ (i : Int) < tof + N) → L[i] = lx[i] := fun i h h' hn => by
                          have := HST.out (j : Int) i hn
                          rw [eL, ← hyl, List.getElem?_eq_getElem h, List.getElem?_eq_getElem h'] at this
                          injection this
                        subst eg
                        rw [HYS.out] at hcw1
                        unfold maxLen at hcw2
                        have glt := block_lt hcell
                        have HL2 := Lib.hid hL2
                        have HBY := Lib.hid hby
                        have HLEN := Lib.hid hlen
                        have HIJ := Lib.hid hij
                        have HEY := Lib.hid ey
                        have hjl : (j : Int) = tbk → (lx.length : Int) = ((dBytes D tbk).length : Int) := fun e => by rw [hyl, e]
                        have HJL := Lib.hid hjl
                        clear hjl
                        have hlen' : ((L.length : Int) != (lx.length : Int)) = false := by rw [hlen]; simp
                        have hcx := hby.2.1
                        have hcx2 := hby.2.2.1
                        unfold maxLen at hcx2
                        have t3' : (j : Int) < (k : Int) := by omega
                        clear eL hwk ey hyl hby hlen hL2
                        go_wp2_with (first
                          | ((with_reducible refine d3.mono ?_); rintro e w7 ⟨p7, c7, rfl, hr7, hb7⟩; have hcell7 := (hb7.cell (p := ⟨g, j, none⟩) glt).trans hcell; have X7 := Lib.hid (And.intro hr7 hb7); clear hr7 hb7))
                        have HQ0 := Lib.hid (HM.out.later X7.out.2)
                        have HV0 := Lib.hid (HWa.out.later X7.out.2)
                        have HL0 := Lib.hid (And.intro (bytes_in X7.out.1 rfl) (HBY.out.later X7.out.2))
                        clear hcell7 hcell glt
                        go_loopw [152] (fun u wr => ∃ i : Nat, i ≤ L.length ∧ u = .int .i64 i ∧ Mo W0 o5 mb D2 wr ∧ Wa W0 o5 ys (some ⟨g, 0, none⟩) cw wr ∧ Two p7 L c7 px lx cx wr) (fun u _ => L.length - (intOf u).toNat)
                        case atStart => exact ⟨0, Nat.zero_le _, rfl, HQ0.out, HV0.out, HL0.out⟩
                        case round =>
                          clear HQ0 HV0 HL0 X7 d3 HM HWa
                          obtain ⟨i, hi, rfl, hQ, hV, hT⟩ := hrel
                          have HQ := Lib.hid hQ
                          have HV := Lib.hid hV
                          have HL := Lib.hid hT
                          clear hQ hV hT
                          by_cases t5 : i < L.length
                          · have t4 : i < lx.length := by rw [← HLEN.out]; exact t5
                            obtain ⟨a, ea, ha, hy⟩ := by_row HL.out.1 i t5
                            obtain ⟨b, eb, hb, hz⟩ := by_row HL.out.2 i t4
                            obtain ⟨g', eg', hcell, _, _, _⟩ := HV.out.cell j HIJ.out
                            obtain rfl : g = g' := by injection eg' with e; injection e
                            rw [HEY.out] at hcell
                            simp only at hcell
                            have hc7 := HL.out.1.2.1
                            have hc72 := HL.out.1.2.2.1
                            unfold maxLen at hc72
                            have hLi := HL2.out i t4 t5
                            obtain ⟨⟨yk, yb, ybk, yo, yi⟩, ey⟩ : ∃ x, lx[i] = x := ⟨_, rfl⟩
                            obtain ⟨⟨zk, zb, zbk, zo, zi⟩, ez⟩ : ∃ x, L[i] = x := ⟨_, rfl⟩
                            rw [ey] at hz
                            rw [ez] at hy
                            rw [ey, ez] at hLi
                            subst ea eb
                            obtain ⟨f0, f1, f2, f3, f4⟩ := hy
                            obtain ⟨g0, g1, g2, g3, g4⟩ := hz
                            simp only at f0 f1 f2 f3 f4 g0 g1 g2 g3 g4
                            clear ey ez eg'
                            have t4' : (i : Int) < (lx.length : Int) := by omega
                            have t5' : (i : Int) < (L.length : Int) := by omega
                            have BT' := BT.out.below HQ.out.past BT.out.1
                            have z2 := BT'.get 2 _ rfl
                            have z3 := BT'.get 3 _ rfl
                            clear BT'
                            by_cases h1 : (j : Int) = tbk
                            · have h1' : ((j : Int) == tbk) = true := by rw [h1]; simp
                              have hin := HIN.out
                              have hjl := HJL.out h1
                              have hjb := h1
                              have ew : IntKind.i64.wrap (tof + (N : Int)) = tof + (N : Int) := by rw [IntKind.wrap_i64]; omega
                              have HJB := Lib.hid hjb
                              clear h1 hjb hjl
                              by_cases h2 : tof ≤ (i : Int)
                              · by_cases h3 : (i : Int) < tof + (N : Int)
                                · clear hLi hin
                                  go_wp2_with fail
                                  go_region
                                  go_wp2_with fail
                                  exact ⟨⟨i + 1, t5, by go_num, HQ.out.later (below_drew (Below.refl _ _)), HV.out.later (below_drew (Below.refl _ _)), HL.out.later (below_drew (Below.refl _ _))⟩, by simp [intOf]; omega⟩
                                · have h3' : tof + (N : Int) ≤ (i : Int) := by omega
                                  clear hin
                                  have hL := hLi (fun x => absurd x.2.2 (by omega))
                                  injection hL with i0 i1 i2 i3 i4
                                  subst i0 i1 i2 i3 i4
                                  clear hLi
                                  go_wp2_with fail
                                  go_region
                                  go_wp2_with fail
                                  exact ⟨⟨i + 1, t5, by go_num, HQ.out.later (below_drew (Below.refl _ _)), HV.out.later (below_drew (Below.refl _ _)), HL.out.later (below_drew (Below.refl _ _))⟩, by simp [intOf]; omega⟩
                              · have h2' : (i : Int) < tof := by omega
                                clear hin ew
                                have hL := hLi (fun x => absurd x.2.1 (by omega))
                                injection hL with i0 i1 i2 i3 i4
                                subst i0 i1 i2 i3 i4
                                clear hLi
                                go_wp2_with fail
                                go_region
                                go_wp2_with fail
                                exact ⟨⟨i + 1, t5, by go_num, HQ.out.later (below_drew (Below.refl _ _)), HV.out.later (below_drew (Below.refl _ _)), HL.out.later (below_drew (Below.refl _ _))⟩, by simp [intOf]; omega⟩
                            · have h1' : ((j : Int) == tbk) = false := by simpa using h1
                              have hL := hLi (fun x => h1 x.1)
                              injection hL with i0 i1 i2 i3 i4
                              subst i0 i1 i2 i3 i4
                              clear hLi
                              go_wp2_with fail
                              go_region
                              go_wp2_with fail
                              exact ⟨⟨i + 1, t5, by go_num, HQ.out.later (below_drew (Below.refl _ _)), HV.out.later (below_drew (Below.refl _ _)), HL.out.later (below_drew (Below.refl _ _))⟩, by simp [intOf]; omega⟩
                          · obtain rfl : i = L.length := by omega
                            go_wp2_with fail
                            exact ⟨⟨j + 1, t3, by go_num, HQ.out, HV.out⟩, by simp [intOf]; omega⟩
                      · obtain rfl : j = k := by omega
                        go_wp2_with fail
                        go_ret
                        exact ⟨rfl, HW0.out.trans (HM.out.past.mono HW0.out.size)⟩
                · have r1 : (tt == 65) = false := by simpa using q1
                  have hb : back tt ⟨vvk, vvb, vvbk, vvo⟩ = ⟨nk, nb, nbk, no⟩ := by unfold back; rw [if_neg (fun x => q1 x.1)]; exact en
                  rw [hb] at hbk
                  have e2 : ∀ o w, MemD o mb D2 w → Calls Try.prog 26 #[.pointer (some ⟨mb, 0, none⟩), .int .i64 tt, .agg #[.int .i64 tk, .int .u64 tb, .int .i64 tbk, .int .i64 tof]] w fun e w' => e = .returned (.tuple #[.agg #[.int .i64 nk, .int .u64 nb, .int .i64 nbk, .int .i64 no], .bool true]) ∧ Below w.heap.size w w' := fun o w h => by
                    have := LoadD o mb D2 w tt ⟨tk, tb, tbk, tof⟩ HTV.out.2.1 HTV.out.2.2.1 h
                    rw [hbk, ← eD2, store_in hin] at this
                    exact this
                  clear en eN eD2 hin VB VT hk t2 hb hbk
                  clear q1
                  go_wp2_with (first
                    | ((with_reducible refine e1.mono ?_); rintro e w5 ⟨rfl, g5⟩; obtain ⟨o5, M5, O5, E5⟩ := HM.out.go g5; have W5 := HWa.out.only O5 E5; have e2' := e2 o5 w5 M5.m; have HM5 := Lib.hid M5; have HW5 := Lib.hid W5; have VB := BV.out.below M5.past BV.out.1; have VT := BT.out.below M5.past BT.out.1; have v0 := VB.get 0 _ rfl; have v1 := VB.get 1 _ rfl; have v2 := VB.get 2 _ rfl; have v3 := VB.get 3 _ rfl; have z0 := VT.get 0 _ rfl; have z1 := VT.get 1 _ rfl; have z2 := VT.get 2 _ rfl; have z3 := VT.get 3 _ rfl; have HVB := Lib.hid VB; clear g5 M5 W5 O5 E5 VB VT)
                    | ((with_reducible refine e2'.mono ?_); rintro e w6 ⟨rfl, hb6⟩; have HM6 := Lib.hid ((HM5.out.later hb6).later (below1 w6 (.cells #[.int .i64 nk, .int .u64 nb, .int .i64 nbk, .int .i64 no] 24))); have HW6 := Lib.hid ((HW5.out.later hb6).later (below1 w6 (.cells #[.int .i64 nk, .int .u64 nb, .int .i64 nbk, .int .i64 no] 24))); have VB := (HVB.out.later hb6).later (below1 w6 (.cells #[.int .i64 nk, .int .u64 nb, .int .i64 nbk, .int .i64 no] 24)); have V18 := Box.new w6 rfl [.int .i64 nk, .int .u64 nb, .int .i64 nbk, .int .i64 no] 24; have HV18 := Lib.hid V18; have v0 := VB.get 0 _ rfl; have v1 := VB.get 1 _ rfl; have v2 := VB.get 2 _ rfl; have v3 := VB.get 3 _ rfl; have HVB2 := Lib.hid VB; clear hb6 VB V18)
                    | ((with_reducible refine (e3 _).mono ?_); rintro e w7 ⟨rfl, hb7⟩; have HM7 := Lib.hid ((HM6.out.later hb7).later (below1 w7 (.cells #[.int .i64 nk, .int .u64 nb, .int .i64 nbk, .int .i64 no] 24))); have HW7 := Lib.hid ((HW6.out.later hb7).later (below1 w7 (.cells #[.int .i64 nk, .int .u64 nb, .int .i64 nbk, .int .i64 no] 24))); have VB := (HVB2.out.later hb7); have V18 := HV18.out.later hb7; have v0 := VB.get 0 _ rfl; have v1 := VB.get 1 _ rfl; have v2 := VB.get 2 _ rfl; have v3 := VB.get 3 _ rfl; have y0 := V18.get 0 _ rfl; have y1 := V18.get 1 _ rfl; have y2 := V18.get 2 _ rfl; have y3 := V18.get 3 _ rfl; have VC := VB.alloc (.cells #[.int .i64 nk, .int .u64 nb, .int .i64 nbk, .int .i64 no] 24); have aa0 := VC.get 0 _ rfl; have aa1 := VC.get 1 _ rfl; have aa2 := VC.get 2 _ rfl; have aa3 := VC.get 3 _ rfl; have VD := VB.alloc (.cells #[.int .i64 nk, .int .u64 nb, .int .i64 nbk, .int .i64 no] 24); have bb0 := VD.get 0 _ rfl; have bb1 := VD.get 1 _ rfl; have bb2 := VD.get 2 _ rfl; have bb3 := VD.get 3 _ rfl; have VE := V18.alloc (.cells #[.int .i64 nk, .int .u64 nb, .int .i64 nbk, .int .i64 no] 24); have cc0 := VE.get 0 _ rfl; have cc1 := VE.get 1 _ rfl; have cc2 := VE.get 2 _ rfl; have cc3 := VE.get 3 _ rfl; clear hb7 VB V18 VC VD VE)
                    | ((with_reducible refine (e4 _).mono ?_); rintro e w8 ⟨p8, c8, rfl, hb8⟩))
                  have HM9 := Lib.hid (HM7.out.later hb8)
                  have HW9 := Lib.hid (HW7.out.later hb8)
                  clear HM HWa HM5 HW5 HM6 HW6 HM7 HW7 HVB HVB2 HV18 hb8 e1 e2 e3 e4 e2'
                  go_loopw [22] (fun u wr => ∃ j : Nat, j ≤ k ∧ u = .int .i64 j ∧ Mo W0 o5 mb D2 wr ∧ Wa W0 o5 ys pw cw wr) (fun u _ => k - (intOf u).toNat)
                  case atStart => exact ⟨0, Nat.zero_le _, rfl, HM9.out, HW9.out⟩
                  case round =>
                    clear HM9 HW9
                    obtain ⟨j, hj, rfl, hM, hWa⟩ := hrel
                    have HM := Lib.hid hM
                    have HWa := Lib.hid hWa
                    clear hM hWa
                    by_cases t3 : j < k
                    · have hwk : wf64 (j : Int) := ⟨by omega, by omega⟩
                      have d3 := BytesD o5 mb D2 wr (j : Int) hwk HM.out.m
                      obtain ⟨L, eL⟩ : ∃ L, dBytes D2 (j : Int) = L := ⟨_, rfl⟩
                      rw [eL] at d3
                      have hij : j < ys.length := by rw [HYS.out]; exact t3
                      obtain ⟨g, eg, hcell, hby, hcw1, hcw2⟩ := HWa.out.cell j hij
                      have hyl := HYB.out j hij
                      obtain ⟨⟨px, cx, lx⟩, ey⟩ : ∃ x, ys[j] = x := ⟨_, rfl⟩
                      rw [ey] at hcell hby hyl
                      simp only at hcell hby hyl
                      have hlen : L.length = lx.length := by rw [← eL, HSL.out, hyl]
                      have hL2 : ∀ i (h : i < lx.length) (h' : i < L.length), ¬ ((j : Int) = tbk ∧ tof ≤ (i : Int) ∧ (i : Int) < tof + N) → L[i] = lx[i] := fun i h h' hn => by
                        have := HST.out (j : Int) i hn
                        rw [eL, ← hyl, List.getElem?_eq_getElem h, List.getElem?_eq_getElem h'] at this
                        injection this
                      subst eg
                      rw [HYS.out] at hcw1
                      unfold maxLen at hcw2
                      have glt := block_lt hcell
                      have HL2 := Lib.hid hL2
                      have HBY := Lib.hid hby
                      have HLEN := Lib.hid hlen
                      have HIJ := Lib.hid hij
                      have HEY := Lib.hid ey
                      have hjl : (j : Int) = tbk → (lx.length : Int) = ((dBytes D tbk).length : Int) := fun e => by rw [hyl, e]
                      have HJL := Lib.hid hjl
                      clear hjl
                      have hlen' : ((L.length : Int) != (lx.length : Int)) = false := by rw [hlen]; simp
                      have hcx := hby.2.1
                      have hcx2 := hby.2.2.1
                      unfold maxLen at hcx2
                      have t3' : (j : Int) < (k : Int) := by omega
                      clear eL hwk ey hyl hby hlen hL2
                      go_wp2_with (first
                        | ((with_reducible refine d3.mono ?_); rintro e w7 ⟨p7, c7, rfl, hr7, hb7⟩; have hcell7 := (hb7.cell (p := ⟨g, j, none⟩) glt).trans hcell; have X7 := Lib.hid (And.intro hr7 hb7); clear hr7 hb7))
                      have HQ0 := Lib.hid (HM.out.later X7.out.2)
                      have HV0 := Lib.hid (HWa.out.later X7.out.2)
                      have HL0 := Lib.hid (And.intro (bytes_in X7.out.1 rfl) (HBY.out.later X7.out.2))
                      clear hcell7 hcell glt
                      go_loopw [152] (fun u wr => ∃ i : Nat, i ≤ L.length ∧ u = .int .i64 i ∧ Mo W0 o5 mb D2 wr ∧ Wa W0 o5 ys (some ⟨g, 0, none⟩) cw wr ∧ Two p7 L c7 px lx cx wr) (fun u _ => L.length - (intOf u).toNat)
                      case atStart => exact ⟨0, Nat.zero_le _, rfl, HQ0.out, HV0.out, HL0.out⟩
                      case round =>
                        clear HQ0 HV0 HL0 X7 d3 HM HWa
                        obtain ⟨i, hi, rfl, hQ, hV, hT⟩ := hrel
                        have HQ := Lib.hid hQ
                        have HV := Lib.hid hV
                        have HL := Lib.hid hT
                        clear hQ hV hT
                        by_cases t5 : i < L.length
                        · have t4 : i < lx.length := by rw [← HLEN.out]; exact t5
                          obtain ⟨a, ea, ha, hy⟩ := by_row HL.out.1 i t5
                          obtain ⟨b, eb, hb, hz⟩ := by_row HL.out.2 i t4
                          obtain ⟨g', eg', hcell, _, _, _⟩ := HV.out.cell j HIJ.out
                          obtain rfl : g = g' := by injection eg' with e; injection e
                          rw [HEY.out] at hcell
                          simp only at hcell
                          have hc7 := HL.out.1.2.1
                          have hc72 := HL.out.1.2.2.1
                          unfold maxLen at hc72
                          have hLi := HL2.out i t4 t5
                          obtain ⟨⟨yk, yb, ybk, yo, yi⟩, ey⟩ : ∃ x, lx[i] = x := ⟨_, rfl⟩
                          obtain ⟨⟨zk, zb, zbk, zo, zi⟩, ez⟩ : ∃ x, L[i] = x := ⟨_, rfl⟩
                          rw [ey] at hz
                          rw [ez] at hy
                          rw [ey, ez] at hLi
                          subst ea eb
                          obtain ⟨f0, f1, f2, f3, f4⟩ := hy
                          obtain ⟨g0, g1, g2, g3, g4⟩ := hz
                          simp only at f0 f1 f2 f3 f4 g0 g1 g2 g3 g4
                          clear ey ez eg'
                          have t4' : (i : Int) < (lx.length : Int) := by omega
                          have t5' : (i : Int) < (L.length : Int) := by omega
                          have BT' := BT.out.below HQ.out.past BT.out.1
                          have z2 := BT'.get 2 _ rfl
                          have z3 := BT'.get 3 _ rfl
                          clear BT'
                          by_cases h1 : (j : Int) = tbk
                          · have h1' : ((j : Int) == tbk) = true := by rw [h1]; simp
                            have hin := HIN.out
                            have hjl := HJL.out h1
                            have hjb := h1
                            have ew : IntKind.i64.wrap (tof + (N : Int)) = tof + (N : Int) := by rw [IntKind.wrap_i64]; omega
                            have HJB := Lib.hid hjb
                            clear h1 hjb hjl
                            by_cases h2 : tof ≤ (i : Int)
                            · by_cases h3 : (i : Int) < tof + (N : Int)
                              · clear hLi hin
                                go_wp2_with fail
                                go_region
                                go_wp2_with fail
                                exact ⟨⟨i + 1, t5, by go_num, HQ.out.later (below_drew (Below.refl _ _)), HV.out.later (below_drew (Below.refl _ _)), HL.out.later (below_drew (Below.refl _ _))⟩, by simp [intOf]; omega⟩
                              · have h3' : tof + (N : Int) ≤ (i : Int) := by omega
                                clear hin
                                have hL := hLi (fun x => absurd x.2.2 (by omega))
                                injection hL with i0 i1 i2 i3 i4
                                subst i0 i1 i2 i3 i4
                                clear hLi
                                go_wp2_with fail
                                go_region
                                go_wp2_with fail
                                exact ⟨⟨i + 1, t5, by go_num, HQ.out.later (below_drew (Below.refl _ _)), HV.out.later (below_drew (Below.refl _ _)), HL.out.later (below_drew (Below.refl _ _))⟩, by simp [intOf]; omega⟩
                            · have h2' : (i : Int) < tof := by omega
                              clear hin ew
                              have hL := hLi (fun x => absurd x.2.1 (by omega))
                              injection hL with i0 i1 i2 i3 i4
                              subst i0 i1 i2 i3 i4
                              clear hLi
                              go_wp2_with fail
                              go_region
                              go_wp2_with fail
                              exact ⟨⟨i + 1, t5, by go_num, HQ.out.later (below_drew (Below.refl _ _)), HV.out.later (below_drew (Below.refl _ _)), HL.out.later (below_drew (Below.refl _ _))⟩, by simp [intOf]; omega⟩
                          · have h1' : ((j : Int) == tbk) = false := by simpa using h1
                            have hL := hLi (fun x => h1 x.1)
                            injection hL with i0 i1 i2 i3 i4
                            subst i0 i1 i2 i3 i4
                            clear hLi
                            go_wp2_with fail
                            go_region
                            go_wp2_with fail
                            exact ⟨⟨i + 1, t5, by go_num, HQ.out.later (below_drew (Below.refl _ _)), HV.out.later (below_drew (Below.refl _ _)), HL.out.later (below_drew (Below.refl _ _))⟩, by simp [intOf]; omega⟩
                        · obtain rfl : i = L.length := by omega
                          go_wp2_with fail
                          exact ⟨⟨j + 1, t3, by go_num, HQ.out, HV.out⟩, by simp [intOf]; omega⟩
                    · obtain rfl : j = k := by omega
                      go_wp2_with fail
                      go_ret
                      exact ⟨rfl, HW0.out.trans (HM.out.past.mono HW0.out.size)⟩
end Go.Proofs.Ytdepgjonbodjlaa
