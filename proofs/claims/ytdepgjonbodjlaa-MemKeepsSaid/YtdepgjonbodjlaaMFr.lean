/- MemFrees: the walk. -/
import Derived.Test.YtdepgjonbodjlaaMWa
namespace Go.Proofs.Ytdepgjonbodjlaa
open Go.RowKit Go.Maps
set_option linter.unusedVariables false
set_option linter.unusedSimpArgs false

def fD (D : Dm) (s : Sp) : Dm := if s.kind = 1 then dNew D s.a q0 else if s.kind = 4 then dStore D s.t s.v s.at' else D
/-- A memory of the call's own. -/
structure Mo (W : World) (o : Nat → Nat) (mb : Nat) (D : Dm) (w : World) : Prop where
  m : MemD o mb D w
  low : ∀ k, k < W.heap.size → o k = 0
  past : Below W.heap.size W w
theorem Mo.later {W : World} {o : Nat → Nat} {mb : Nat} {D : Dm} {w w' : World} (h : Mo W o mb D w) (hb : Below w.heap.size w w') : Mo W o mb D w' := ⟨h.m.later hb, h.low, h.past.trans (hb.mono h.past.size)⟩
theorem Mo.go {W : World} {o : Nat → Nat} {mb : Nat} {D D' : Dm} {w w' : World} (h : Mo W o mb D w) (g : GoesD o mb D' w w') : ∃ o', Mo W o' mb D' w' ∧ Only o w w' ∧ Ext o o' w := by
  obtain ⟨o', g1, g2, g3⟩ := g
  exact ⟨o', ⟨g1, fun k hk => (g3 k (Nat.lt_of_lt_of_le hk h.past.size)).trans (h.low k hk), only_past h.past g2 h.low⟩, g2, g3⟩
/-- Two rows of bytes. -/
def Two (p7 : Option Addr) (L : List By) (c7 : Nat) (px : Option Addr) (lx : List By) (cx : Nat) (w : World) : Prop := BysIn w.heap.size w p7 L.length c7 L ∧ BysIn w.heap.size w px lx.length cx lx
theorem Two.later {p7 : Option Addr} {L : List By} {c7 : Nat} {px : Option Addr} {lx : List By} {cx : Nat} {w w' : World} (h : Two p7 L c7 px lx cx w) (hb : Below w.heap.size w w') : Two p7 L c7 px lx cx w' := ⟨h.1.later hb, h.2.later hb⟩
set_option maxRecDepth 100000 in
set_option maxHeartbeats 4000000 in
theorem memFrees_walk (p0 p1 : Option Addr) (c0 c1 : Nat) (xs : List Int) (l1 : List Sp) (bk : Int) (W : World) (hx : ListIn intC NoMem W.heap.size W p0 xs.length c0 xs) (hxw : ∀ x ∈ xs, wf64 x)
    (h1 : ListIn spC NoMem W.heap.size W p1 l1.length c1 l1) (h1w : ∀ s ∈ l1, SpOk s) (hbk : wf64 bk) :
    Calls Try.prog 7 #[.slice p0 xs.length c0, .slice p1 l1.length c1, .int .i64 bk] W fun e w' => e = .returned (.bool true) ∧ Below W.heap.size W w' := by
  have cl := lives_any W
  have k1 := h1.2.1
  have k2 := h1.2.2.1
  have k5 := hx.2.1
  have k6 := hx.2.2.1
  unfold maxLen at k2 k6
  have H1 := Lib.hid h1
  have HW1 := Lib.hid h1w
  have HBK := Lib.hid hbk
  have cN : ∀ w, xs.length ≤ 1000 → Below W.heap.size W w → Calls Try.prog 17 #[.slice p0 xs.length c0] w fun e w' => ∃ o mb, e = .returned (.pointer (some ⟨mb, 0, none⟩)) ∧ MemD o mb (dNews xs) w' ∧ Below w.heap.size w w' ∧ (∀ k, k < w.heap.size → o k = 0) := fun w hl hb => NewD w p0 c0 xs (ListIn.lasts lasts_NoMem hx hb hb.size) hxw hl
  have HXL := Lib.hid (dNews_len xs)
  clear hx h1 h1w hbk
  by_cases g1 : 20 < xs.length
  · have g1' : (20 : Int) < (xs.length : Int) := by omega
    clear g1
    go_enter Try.func7, Try.ntmps7
    go_wp2_with (first | ((with_reducible refine cl.mono ?_); rintro e w1 ⟨rfl, hb1⟩))
    go_ret
    exact ⟨rfl, hb1⟩
  · have g1' : ¬ (20 : Int) < (xs.length : Int) := by omega
    by_cases g2 : 40 < l1.length
    · have g2' : (40 : Int) < (l1.length : Int) := by omega
      clear g1 g2
      go_enter Try.func7, Try.ntmps7
      go_wp2_with (first | ((with_reducible refine cl.mono ?_); rintro e w1 ⟨rfl, hb1⟩))
      go_ret
      exact ⟨rfl, hb1⟩
    · have g2' : ¬ (40 : Int) < (l1.length : Int) := by omega
      have n1 : xs.length ≤ 20 := by omega
      have n2 : l1.length ≤ 40 := by omega
      have n4 : xs.length ≤ 1000 := by omega
      obtain ⟨iV, hiV, hz0, hz1, hz2⟩ := info_parts infoBys
      have HI := Lib.hid (And.intro hiV (And.intro hz0 (And.intro hz1 hz2)))
      have b3 := fun (w : World) (k b : Int) => (run_build _ _ _ _ (by kernel_rfl) : (Instr.build 24 #[(0, .int .i64 k), (2, .int .i64 b)]).run Try.prog w = .ok (.agg #[.int .i64 k, .int .u64 0, .int .i64 b, .int .i64 0]) w)
      have bB := bB0
      clear g1 g2 hiV hz0 hz1 hz2
      go_enter Try.func7, Try.ntmps7
      go_wp2_with (first
        | ((with_reducible refine cl.mono ?_); rintro e w1 ⟨rfl, hb1⟩; have d1 := cN w1 n4 hb1; have HB1 := Lib.hid hb1; clear hb1)
        | ((with_reducible refine d1.mono ?_); rintro e w2 ⟨o, mb, rfl, hm2, hb2, ho2⟩))
      have M0 : Mo W o mb (dNews xs) w2 := ⟨hm2, fun k hk => ho2 k (Nat.lt_of_lt_of_le hk HB1.out.size), HB1.out.trans (hb2.mono HB1.out.size)⟩
      have HM0 := Lib.hid M0
      clear cl cN d1 hm2 hb2 ho2 M0
      go_loopw [8, 38] (fun vb vi wr => ∃ (k n : Nat) (o : Nat → Nat) (D : Dm), k ≤ l1.length ∧ vi = .int .i64 k ∧ vb = .int .i64 n ∧ D.length = n ∧ n ≤ 20 + k ∧ Mo W o mb D wr) (fun _ vi _ => l1.length - (intOf vi).toNat)
      case atStart => exact ⟨0, xs.length, o, dNews xs, Nat.zero_le _, rfl, rfl, HXL.out, by omega, HM0.out⟩
      case round =>
        clear HM0
        obtain ⟨k, n, o, D, hk, rfl, rfl, hD, hn, hM⟩ := hrel
        have HM := Lib.hid hM
        have HD := Lib.hid hD
        clear hM hD
        by_cases t1 : k < l1.length
        · obtain ⟨a1, ea1, ha1, hsp⟩ := sp_row H1.out HM.out.past k t1
          subst ea1
          have hwf := HW1.out _ (List.getElem_mem t1)
          obtain ⟨⟨kd, a, b, t, ⟨vk, vb, vbk, vo⟩, ⟨ak, ab, abk, ao⟩, y⟩, es⟩ : ∃ s, l1[k] = s := ⟨_, rfl⟩
          rw [es] at hsp hwf
          obtain ⟨hs0, hs1, hs2, hs3, hs4, hs5, hs6, hs7⟩ := hwf
          obtain ⟨f0, f1, f2, f3, f4, f5, f6, f7, f8, f9, f10, f11, f12⟩ := hsp
          simp only at f0 f1 f2 f3 f4 f5 f6 f7 f8 f9 f10 f11 f12
          have HA := Lib.hid (HM.out.later (below1 wr (.cells #[.int .i64 kd, .int .i64 a, .int .i64 b, .int .i64 t, .int .i64 vk, .int .u64 vb, .int .i64 vbk, .int .i64 vo, .int .i64 ak, .int .u64 ab, .int .i64 abk, .int .i64 ao, .int .u8 y] 43)))
          have e1 := AllocD o mb D _ a hs1 (by have := HD.out; omega) HA.out.m
          have e4 : Calls Try.prog 24 #[.pointer (some ⟨mb, 0, none⟩), .int .i64 t, .agg #[.int .i64 vk, .int .u64 vb, .int .i64 vbk, .int .i64 vo], .agg #[.int .i64 ak, .int .u64 ab, .int .i64 abk, .int .i64 ao]] (wr.alloc (.cells #[.int .i64 kd, .int .i64 a, .int .i64 b, .int .i64 t, .int .i64 vk, .int .u64 vb, .int .i64 vbk, .int .i64 vo, .int .i64 ak, .int .u64 ab, .int .i64 abk, .int .i64 ao, .int .u8 y] 43)) fun e w' => e = .returned (.bool (dIn D t ⟨ak, ab, abk, ao⟩)) ∧ GoesD o mb (dStore D t ⟨vk, vb, vbk, vo⟩ ⟨ak, ab, abk, ao⟩) _ w' := StoreD o mb D _ t ⟨vk, vb, vbk, vo⟩ ⟨ak, ab, abk, ao⟩ hs4.1 hs4.2.1 hs5.2.1 hs5.2.2.1 HA.out.m
          clear es hs0 hs1 hs2 hs3 hs4 hs5 hs6 hs7
          by_cases q1 : kd = 1
          · have r1 : (kd == 1) = true := by rw [q1]; rfl
            clear q1
            go_wp2_with (first | ((with_reducible refine e1.mono ?_); rintro e w5 ⟨rfl, g5⟩))
            obtain ⟨o', m5, _, _⟩ := HA.out.go g5
            exact ⟨⟨k + 1, n + 1, o', _, t1, by go_num, by go_num, by rw [dNew_len, HD.out], by omega, m5⟩, by simp [intOf]; omega⟩
          · have r1 : (kd == 1) = false := by simpa using q1
            by_cases q4 : kd = 4
            · have r4 : (kd == 4) = true := by rw [q4]; rfl
              clear q1 q4
              go_wp2_with (first | ((with_reducible refine e4.mono ?_); rintro e w5 ⟨rfl, g5⟩))
              obtain ⟨o', m5, _, _⟩ := HA.out.go g5
              exact ⟨⟨k + 1, n, o', _, t1, by go_num, rfl, by rw [dStore_len, HD.out], by omega, m5⟩, by simp [intOf]; omega⟩
            · have r4 : (kd == 4) = false := by simpa using q4
              clear q1 q4
              go_wp2_with fail
              exact ⟨⟨k + 1, n, o, _, t1, by go_num, rfl, HD.out, by omega, HA.out⟩, by simp [intOf]; omega⟩
        · obtain rfl : k = l1.length := by omega
          have hn60 : n ≤ 60 := by omega
          clear hk t1
          go_wp2_with fail
          clear HW1 hn
          go_loopw [11, 12] (fun vw vi wr => ∃ (k : Nat) (ys : List Wx) (pw : Option Addr) (cw : Nat), k ≤ n ∧ vi = .int .i64 k ∧ vw = .slice pw k cw ∧ ys.length = k ∧ (∀ i (h : i < ys.length), ys[i].2.2 = dBytes D i) ∧ Mo W o mb D wr ∧ Wa W o ys pw cw wr) (fun _ vi _ => n - (intOf vi).toNat)
          case atStart => exact ⟨0, [], none, 0, Nat.zero_le _, rfl, rfl, rfl, fun i h => absurd h (Nat.not_lt_zero _), HM.out, Wa.nil _ _ _⟩
          case round =>
            clear HM
            obtain ⟨k, ys, pw, cw, hk, rfl, rfl, hys, hyb, hM, hWa⟩ := hrel
            have HM := Lib.hid hM
            have HWa := Lib.hid hWa
            have HYS := Lib.hid hys
            have HYB := Lib.hid hyb
            clear hM hWa hys hyb
            by_cases t2 : k < n
            · have hwk : wf64 (k : Int) := ⟨by omega, by omega⟩
              have d3 := BytesD o mb D wr (k : Int) hwk HM.out.m
              obtain ⟨L, eL⟩ : ∃ L, dBytes D (k : Int) = L := ⟨_, rfl⟩
              rw [eL] at d3
              have EL := Lib.hid eL
              have h63 : Hid (k + 1 ≤ maxLen) := Lib.hid (by unfold maxLen; omega)
              have hb1 : Hid ((k + 1) * 24 ≤ 140737488355328) := Lib.hid (by omega)
              clear eL hwk
              go_wp2_with (first
                | ((with_reducible refine d3.mono ?_); rintro e w7 ⟨p7, c7, rfl, hr7, hb7⟩; have X7 := Lib.hid (And.intro hr7 hb7); have R7 := HWa.out.later hb7; have R7 := R7.row; rw [HYS.out] at R7; have R7 := Lib.hid R7; clear hr7 hb7)
                | (at_builtin; refine wpList_append_at rfl (.tmp 68) (.tmp 72) 53 rfl W.heap.size 25 iV _ 1 24 Try.underlying53 HI.out.1 HI.out.2.1 HI.out.2.2.1 HI.out.2.2.2 rfl (by decide) (.slice pw k cw) k _ rfl (R7.out.alloc _) (some ⟨w7.heap.size, 0, none⟩) 1 1 [.slice p7 L.length c7] rfl rfl (lit_at' _ rfl _ _) (by intro u hu; simp at hu; subst hu; rfl) h63.out hb1.out (by have h1 := HM.out.past.size; have h2 := X7.out.2.size; simp; omega) ?_; intro v8 w8 hown8 hgrow8 hmv8))
              obtain ⟨q8, c8, rfl⟩ := row_slice hown8
              rw [← HYS.out] at hown8 hgrow8 hmv8
              have hW8 := HWa.out.snoc HM.out.m HM.out.past.size (p7, c7, L) (.cells #[.slice p7 L.length c7] 25) X7.out.1 X7.out.2 hown8 hgrow8 hmv8
              have M7 := HM.out.later X7.out.2
              have M8 : Mo W o mb D w8 := by
                refine ⟨?_, M7.low, ?_⟩
                · obtain ⟨ab, st, m1, m2, m3⟩ := (M7.later (below1 w7 (.cells #[.slice p7 L.length c7] 25))).m
                  refine ⟨ab, st, m1.same hgrow8.size (fun j hj => hgrow8.block j (m1.inside j hj) (fun e => hj (HWa.out.out j e.symm))), m2, m3⟩
                · exact (M7.later (below1 w7 (.cells #[.slice p7 L.length c7] 25))).past.grown hgrow8 (by have h1 := M7.past.size; simp; omega) (fun j e => (HWa.out.row.lt j e).1)
              exact ⟨⟨k + 1, ys ++ [(p7, c7, L)], q8, c8, t2, by go_num, by rw [← HYS.out], by rw [List.length_append, HYS.out]; rfl, fun i h => by
                by_cases e : i < ys.length
                · rw [List.getElem_append_left e]; exact HYB.out i e
                · have hi : i = ys.length := by rw [List.length_append] at h; simp at h; omega
                  subst hi
                  rw [List.getElem_append_right (Nat.le_refl _)]
                  simp only [Nat.sub_self, List.getElem_cons_zero]
                  rw [HYS.out]; exact EL.out.symm, M8, hW8⟩, by simp [intOf]; omega⟩
            · obtain rfl : k = n := by omega
              have e1 := SizeD o mb D wr bk HBK.out HM.out.m
              have e2 := FreeD o mb D wr bk HBK.out HM.out.m
              obtain ⟨S, eS⟩ : ∃ S, dSize D bk = S := ⟨_, rfl⟩
              rw [eS] at e1
              obtain ⟨A, eA⟩ : ∃ A, decide (0 ≤ S) = A := ⟨_, rfl⟩
              have EA := Lib.hid (show (0 ≤ S → A = true) ∧ (¬ 0 ≤ S → A = false) from ⟨fun h => by rw [← eA]; exact decide_eq_true h, fun h => by rw [← eA]; exact decide_eq_false h⟩)
              have e3 : ∀ o w, MemD o mb (dFree D bk) w → Calls Try.prog 26 #[.pointer (some ⟨mb, 0, none⟩), .int .i64 8, .agg #[.int .i64 2, .int .u64 0, .int .i64 bk, .int .i64 0]] w fun e w' => e = .returned (.tuple #[.agg #[.int .i64 0, .int .u64 0, .int .i64 0, .int .i64 0], .bool false]) ∧ Below w.heap.size w w' := fun o w h => by
                have := LoadD o mb (dFree D bk) w 8 ⟨2, 0, bk, 0⟩ HBK.out wf0 h
                have hf : dIn (dFree D bk) 8 ⟨2, 0, bk, 0⟩ = false := by
                  unfold dIn
                  rw [free_self]
                have hv : loadV (dFree D bk) 8 ⟨2, 0, bk, 0⟩ = (⟨0, 0, 0, 0⟩ : Vl) := by unfold loadV; rw [hf]; rfl
                rw [hf, hv] at this
                exact this
              have e4 : ∀ o w, MemD o mb (dFree D bk) w → Calls Try.prog 27 #[.pointer (some ⟨mb, 0, none⟩), .int .i64 bk] w fun e w' => e = .returned (.int .i64 (-1)) ∧ w = w' := fun o w h => by
                have := SizeD o mb (dFree D bk) w bk HBK.out h
                have hf : dSize (dFree D bk) bk = -1 := by unfold dSize; rw [free_self]
                rw [hf] at this
                exact this
              have e5 : ∀ o w, MemD o mb (dFree D bk) w → Calls Try.prog 21 #[.pointer (some ⟨mb, 0, none⟩), .int .i64 bk] w fun e w' => ∃ p c, e = .returned (.slice p 0 c) ∧ Below w.heap.size w w' := fun o w h => by
                have := BytesD o mb (dFree D bk) w bk HBK.out h
                have hf : dBytes (dFree D bk) bk = [] := by unfold dBytes; rw [free_self]
                rw [hf] at this
                refine this.mono ?_
                rintro e w' ⟨p, c, rfl, _, hb⟩
                exact ⟨p, c, rfl, hb⟩
              have HFB : Hid (∀ j : Int, j ≠ bk → dBytes (dFree D bk) j = if 0 ≤ S then (dBytes D j).map (lostTo bk) else dBytes D j) := Lib.hid (fun j hj => by rw [free_bytes D bk j hj, eS])
              clear eS hk t2
              go_wp2_with (first
                | ((with_reducible refine e1.mono ?_); rintro e w5 ⟨rfl, rfl⟩)
                | ((with_reducible refine e2.mono ?_); rintro e w6 ⟨rfl, g6⟩; obtain ⟨o6, M6, O6, E6⟩ := HM.out.go g6; have W6 := HWa.out.only O6 E6; have e3' := e3 o6 w6 M6.m; have HM6 := Lib.hid M6; have HW6 := Lib.hid W6; clear M6 W6 g6)
                | ((with_reducible refine e3'.mono ?_); rintro e w7 ⟨rfl, hb7⟩; have HM7 := Lib.hid ((HM6.out.later hb7).later (below1 w7 (.cells #[.int .i64 0, .int .u64 0, .int .i64 0, .int .i64 0] 24))); have HW7 := Lib.hid ((HW6.out.later hb7).later (below1 w7 (.cells #[.int .i64 0, .int .u64 0, .int .i64 0, .int .i64 0] 24))); have e4' := e4 o6 _ HM7.out.m; have e5' := e5 o6 _ HM7.out.m; clear hb7)
                | ((with_reducible refine e4'.mono ?_); rintro e w8 ⟨rfl, rfl⟩)
                | ((with_reducible refine e5'.mono ?_); rintro e w9 ⟨p9, c9, rfl, hb9⟩))
              clear eA
              have HM9 := Lib.hid (HM7.out.later hb9)
              have HW9 := Lib.hid (HW7.out.later hb9)
              clear HM HWa HM6 HW6 HM7 HW7 hb9 e1 e2 e3 e4 e5 e3' e4' e5'
              go_loopw [16] (fun u wr => ∃ j : Nat, j ≤ k ∧ u = .int .i64 j ∧ Mo W o6 mb (dFree D bk) wr ∧ Wa W o6 ys pw cw wr) (fun u _ => k - (intOf u).toNat)
              case atStart => exact ⟨0, Nat.zero_le _, rfl, HM9.out, HW9.out⟩
              case round =>
                clear HM9 HW9
                obtain ⟨j, hj, rfl, hM, hWa⟩ := hrel
                have HM := Lib.hid hM
                have HWa := Lib.hid hWa
                clear hM hWa
                by_cases t3 : j < k
                · have hwk : wf64 (j : Int) := ⟨by omega, by omega⟩
                  have d3 := BytesD o6 mb (dFree D bk) wr (j : Int) hwk HM.out.m
                  obtain ⟨L, eL⟩ : ∃ L, dBytes (dFree D bk) (j : Int) = L := ⟨_, rfl⟩
                  rw [eL] at d3
                  have EL := Lib.hid eL
                  clear eL hwk
                  by_cases hjb : (j : Int) = bk
                  · have hjb' : ((j : Int) == bk) = true := by rw [hjb]; simp
                    clear hjb
                    go_wp2_with (first
                      | ((with_reducible refine d3.mono ?_); rintro e w7 ⟨p7, c7, rfl, hr7, hb7⟩))
                    exact ⟨⟨j + 1, t3, by go_num, HM.out.later hb7, HWa.out.later hb7⟩, by simp [intOf]; omega⟩
                  · have hjb' : ((j : Int) == bk) = false := by simpa using hjb
                    have hLB := HFB.out (j : Int) hjb
                    rw [EL.out] at hLB
                    have hij : j < ys.length := by rw [HYS.out]; exact t3
                    obtain ⟨g, eg, hcell, hby, hcw1, hcw2⟩ := HWa.out.cell j hij
                    have hyl := HYB.out j hij
                    obtain ⟨⟨px, cx, lx⟩, ey⟩ : ∃ x, ys[j] = x := ⟨_, rfl⟩
                    rw [ey] at hcell hby hyl
                    simp only at hcell hby hyl
                    rw [← hyl] at hLB
                    have hlen : L.length = lx.length := by rw [hLB]; split <;> simp
                    subst eg
                    rw [HYS.out] at hcw1
                    unfold maxLen at hcw2
                    have glt := block_lt hcell
                    have hL2 : ∀ i (h : i < lx.length) (h' : i < L.length), L[i] = if 0 ≤ S then lostTo bk lx[i] else lx[i] := fun i h h' => by
                      subst hLB
                      by_cases hS : 0 ≤ S
                      · simp [hS]
                      · simp [hS]
                    have HL2 := Lib.hid hL2
                    have HBY := Lib.hid hby
                    have HLEN := Lib.hid hlen
                    have hlen' : ((L.length : Int) != (lx.length : Int)) = false := by rw [hlen]; simp
                    have hcx := hby.2.1
                    have hcx2 := hby.2.2.1
                    unfold maxLen at hcx2
                    clear hjb hLB ey hyl hby hlen hL2
                    go_wp2_with (first
                      | ((with_reducible refine d3.mono ?_); rintro e w7 ⟨p7, c7, rfl, hr7, hb7⟩; have hcell7 := (hb7.cell (p := ⟨g, j, none⟩) glt).trans hcell; have X7 := Lib.hid (And.intro hr7 hb7); clear hr7 hb7))
                    have HQ0 := Lib.hid (HM.out.later X7.out.2)
                    have HV0 := Lib.hid (HWa.out.later X7.out.2)
                    have HL0 := Lib.hid (And.intro (bytes_in X7.out.1 rfl) (HBY.out.later X7.out.2))
                    clear hcell7
                    go_loopw [126] (fun u wr => ∃ i : Nat, i ≤ lx.length ∧ u = .int .i64 i ∧ Mo W o6 mb (dFree D bk) wr ∧ Wa W o6 ys (some ⟨g, 0, none⟩) cw wr ∧ Two p7 L c7 px lx cx wr) (fun u _ => lx.length - (intOf u).toNat)
                    case atStart => exact ⟨0, Nat.zero_le _, rfl, HQ0.out, HV0.out, HL0.out⟩
                    case round =>
                      clear HQ0 HV0 HL0
                      obtain ⟨i, hi, rfl, hQ, hV, hT⟩ := hrel
                      have HQ := Lib.hid hQ
                      have HV := Lib.hid hV
                      have HL := Lib.hid hT
                      clear hQ hV hT
                      by_cases t4 : i < lx.length
                      · have t5 : i < L.length := by rw [HLEN.out]; exact t4
                        obtain ⟨a, ea, ha, hy⟩ := by_row HL.out.1 i t5
                        obtain ⟨b, eb, hb, hz⟩ := by_row HL.out.2 i t4
                        have hc7 := HL.out.1.2.1
                        have hc72 := HL.out.1.2.2.1
                        unfold maxLen at hc72
                        have hLi := HL2.out i t4 t5
                        obtain ⟨⟨yk, yb, ybk, yo, yi⟩, ey⟩ : ∃ x, lx[i] = x := ⟨_, rfl⟩
                        obtain ⟨⟨zk, zb, zbk, zo, zi⟩, ez⟩ : ∃ x, L[i] = x := ⟨_, rfl⟩
                        rw [ey] at hz hLi
                        rw [ez] at hy hLi
                        subst ea eb
                        obtain ⟨f0, f1, f2, f3, f4⟩ := hy
                        obtain ⟨g0, g1, g2, g3, g4⟩ := hz
                        simp only at f0 f1 f2 f3 f4 g0 g1 g2 g3 g4
                        have ab : (a.add (i * 5)).block < wr.heap.size := by rw [add_block]; exact ha
                        clear ey ez
                        have t4' : (i : Int) < (lx.length : Int) := by omega
                        have t5' : (i : Int) < (L.length : Int) := by omega
                        by_cases hS : 0 ≤ S
                        · obtain rfl := EA.out.1 hS
                          rw [if_pos hS] at hLi
                          unfold lostTo at hLi
                          simp only at hLi
                          by_cases h2 : yk = 2
                          · have h2' : (yk == 2) = true := by rw [h2]; rfl
                            by_cases h3 : ybk = bk
                            · have h3' : (ybk == bk) = true := by rw [h3]; simp
                              rw [if_pos ⟨h2, h3⟩] at hLi
                              unfold q0 at hLi
                              injection hLi with i0 i1 i2 i3 i4
                              subst i0 i1 i2 i3 i4
                              clear h2 h3 hS
                              go_wp2_with fail
                              go_region
                              go_wp2_with fail
                              exact ⟨⟨i + 1, t4, by go_num, (HQ.out.later (below1 wr _)).later (below_drew (Below.refl _ _)), (HV.out.later (below1 wr _)).later (below_drew (Below.refl _ _)), (HL.out.later (below1 wr _)).later (below_drew (Below.refl _ _))⟩, by simp [intOf]; omega⟩
                            · have h3' : (ybk == bk) = false := by simpa using h3
                              rw [if_neg (fun x => h3 x.2)] at hLi
                              injection hLi with i0 i1 i2 i3 i4
                              subst i0 i1 i2 i3 i4
                              clear h2 h3 hS
                              go_wp2_with fail
                              go_region
                              go_wp2_with fail
                              exact ⟨⟨i + 1, t4, by go_num, (HQ.out.later (below1 wr _)).later (below_drew (Below.refl _ _)), (HV.out.later (below1 wr _)).later (below_drew (Below.refl _ _)), (HL.out.later (below1 wr _)).later (below_drew (Below.refl _ _))⟩, by simp [intOf]; omega⟩
                          · have h2' : (yk == 2) = false := by simpa using h2
                            rw [if_neg (fun x => h2 x.1)] at hLi
                            injection hLi with i0 i1 i2 i3 i4
                            subst i0 i1 i2 i3 i4
                            clear h2 hS
                            go_wp2_with fail
                            go_region
                            go_wp2_with fail
                            exact ⟨⟨i + 1, t4, by go_num, (HQ.out.later (below1 wr _)).later (below_drew (Below.refl _ _)), (HV.out.later (below1 wr _)).later (below_drew (Below.refl _ _)), (HL.out.later (below1 wr _)).later (below_drew (Below.refl _ _))⟩, by simp [intOf]; omega⟩
                        · obtain rfl := EA.out.2 (by omega)
                          rw [if_neg hS] at hLi
                          injection hLi with i0 i1 i2 i3 i4
                          subst i0 i1 i2 i3 i4
                          clear hS
                          go_wp2_with fail
                          go_region
                          go_wp2_with fail
                          exact ⟨⟨i + 1, t4, by go_num, (HQ.out.later (below1 wr _)).later (below_drew (Below.refl _ _)), (HV.out.later (below1 wr _)).later (below_drew (Below.refl _ _)), (HL.out.later (below1 wr _)).later (below_drew (Below.refl _ _))⟩, by simp [intOf]; omega⟩
                      · obtain rfl : i = lx.length := by omega
                        go_wp2_with fail
                        exact ⟨⟨j + 1, t3, by go_num, HQ.out, HV.out⟩, by simp [intOf]; omega⟩
                · obtain rfl : j = k := by omega
                  go_wp2_with fail
                  go_ret
                  exact ⟨rfl, HM.out.past⟩
end Go.Proofs.Ytdepgjonbodjlaa
