/- MemPlays: the walk. -/
import Derived.Test.YtkbkgbkoplcgeaaMPb
import Derived.Test.YtkbkgbkoplcgeaaMPc
import Derived.Test.YtkbkgbkoplcgeaaMY
namespace Go.Proofs.Ytkbkgbkoplcgeaa
open Go.RowKit Go.Maps
set_option linter.unusedVariables false
set_option linter.unusedSimpArgs false
set_option maxRecDepth 100000

theorem list_in {α : Type} {f : α → List Value} {e m B n c : Nat} {w : World} {p : Option Addr} {ys : List α} (h : w.ownsRow B e m (.slice p n c) n (ys.flatMap f)) (hf : ∀ x, (f x).length = m) (hm : 0 < m) (hn : n = ys.length) : ListIn f NoMem w.heap.size w p n c ys := by
  subst hn
  have hc : ys.length ≤ c ∧ c ≤ maxLen := by
    rcases h.2 with ⟨e, h0⟩ | ⟨g, cap, cur, e, _, _, h1, h2, _⟩
    · injection e with e1 e2 e3; exact ⟨by omega, by rw [e3]; unfold maxLen; omega⟩
    · injection e with e1 e2 e3; subst e3; exact ⟨h1, h2⟩
  refine ⟨rfl, hc.1, hc.2, fun j u hu => ?_, fun _ _ => trivial⟩
  rcases id h.2 with ⟨e, h0⟩ | ⟨g, cap, cur, e, _⟩
  · have : ys = [] := List.eq_nil_of_length_eq_zero h0
    subst this
    simp at hu
  · injection e with e1 e2 e3
    subst e1
    exact ⟨_, rfl, (h.lt g rfl).2, h.cells rfl j u hu⟩
theorem own_below' {w w' : World} {B e m n : Nat} {v : Value} {xs : List Value} (h : w.ownsRow B e m v n xs) (hb : Below w.heap.size w w') : w'.ownsRow B e m v n xs := kept_none h ⟨hb.os, hb.tape, hb.output, hb.size, fun k hk _ => hb.block k hk⟩
theorem infoInt : (Try.prog.info? 3).map (fun i => (i.zero, i.size, i.bytes)) = some (some (.int .i64 0), 1, 8) := by kernel_rfl

set_option maxHeartbeats 4000000 in
theorem memPlays_walk (p0 p1 : Option Addr) (c0 c1 : Nat) (xs : List Int) (l1 : List Sp) (W : World) (hx : ListIn intC NoMem W.heap.size W p0 xs.length c0 xs) (hxw : ∀ x ∈ xs, wf64 x)
    (h1 : ListIn spC NoMem W.heap.size W p1 l1.length c1 l1) (h1w : ∀ s ∈ l1, SpOk s) :
    Calls Try.prog 5 #[.slice p0 xs.length c0, .slice p1 l1.length c1] W fun e w' => e = .returned (.bool true) ∧ Below W.heap.size W w' := by
  have cl := lives_any W
  have k1 := h1.2.1
  have k2 := h1.2.2.1
  have k5 := hx.2.1
  have k6 := hx.2.2.1
  unfold maxLen at k2 k6
  have H1 := Lib.hid h1
  have HW1 := Lib.hid h1w
  have HX := Lib.hid hx
  have HXW := Lib.hid hxw
  clear hx h1 h1w hxw
  by_cases g1 : 20 < xs.length
  · have g1' : (20 : Int) < (xs.length : Int) := by omega
    clear g1
    go_enter Try.func5, Try.ntmps5
    go_wp2_with (first | ((with_reducible refine cl.mono ?_); rintro e w1 ⟨rfl, hb1⟩))
    go_ret
    exact ⟨rfl, hb1⟩
  · have g1' : ¬ (20 : Int) < (xs.length : Int) := by omega
    by_cases g2 : 40 < l1.length
    · have g2' : (40 : Int) < (l1.length : Int) := by omega
      clear g1 g2
      go_enter Try.func5, Try.ntmps5
      go_wp2_with (first | ((with_reducible refine cl.mono ?_); rintro e w1 ⟨rfl, hb1⟩))
      go_ret
      exact ⟨rfl, hb1⟩
    · have g2' : ¬ (40 : Int) < (l1.length : Int) := by omega
      have n1 : xs.length ≤ 20 := by omega
      have n2 : l1.length ≤ 40 := by omega
      obtain ⟨iV, hiV, hz0, hz1, hz2⟩ := info_parts infoInt
      have HI := Lib.hid (And.intro hiV (And.intro hz0 (And.intro hz1 hz2)))
      have h63 : Hid (0 + xs.length ≤ maxLen) := Lib.hid (by unfold maxLen; omega)
      have hby : Hid ((0 + xs.length) * 8 ≤ 140737488355328) := Lib.hid (by omega)
      have hfl : Hid ((xs.flatMap intC).length = xs.length * 1) := Lib.hid (flat_len intC 1 (fun _ => rfl) xs)
      have HON : Hid (∀ u ∈ xs.flatMap intC, u.oneCell' = true) := Lib.hid (fun u hu => by
        obtain ⟨v, _, hv⟩ := List.mem_flatMap.1 hu
        unfold intC at hv
        simp at hv
        subst hv
        rfl)
      have bB := bB1
      clear g1 g2 hiV hz0 hz1 hz2
      go_enter Try.func5, Try.ntmps5
      go_wp2_with (first
        | ((with_reducible refine cl.mono ?_); rintro e w1 ⟨rfl, hb1⟩; have HB1 := Lib.hid hb1
           have HO0 : Hid ((w1.alloc (.cells #[] 3)).ownsRow w1.heap.size 3 1 (.slice (some ⟨w1.heap.size, 0, none⟩) 0 0) 0 []) := Lib.hid (World.ownsRow_lit w1 #[] 0 (Nat.le_refl _) (Nat.zero_le _) rfl)
           have HNW : Hid (∀ j u, (xs.flatMap intC)[j]? = some u → ∃ ad, p0 = some ad ∧ (w1.alloc (.cells #[] 3)).cell? (ad.add j) = some u) := Lib.hid (fun j u hu => by
             obtain ⟨a, e, ha, hc⟩ := HX.out.2.2.2.1 j u hu
             exact ⟨a, e, ((hb1.trans ((below1 w1 _).mono hb1.size)).cell (p := a.add j) (by rw [add_block]; exact ha)).trans hc⟩)
           have HBS : Hid (w1.heap.size ≤ (w1.alloc (.cells #[] 3)).heap.size) := Lib.hid (by simp)
           clear hb1)
        | (at_builtin
           refine wpList_append_at rfl (.tmp 25) (.tmp 26) 35 rfl w1.heap.size 3 iV _ 1 8 Try.underlying35 HI.out.1 HI.out.2.1 HI.out.2.2.1 HI.out.2.2.2 rfl (by decide) (.slice (some ⟨w1.heap.size, 0, none⟩) 0 0) 0 [] rfl
             HO0.out p0 xs.length c0 (xs.flatMap intC) rfl hfl.out HNW.out HON.out h63.out hby.out HBS.out ?_
           intro v2 w2 hown hgrow hmv
           obtain ⟨q2, c2, rfl⟩ := row_slice hown
           rw [Nat.zero_add, List.nil_append] at hown
           rw [Nat.zero_add]
           have hb2 : Below w1.heap.size w1 w2 := (below1 w1 _).trans (Past.grown (Past.refl (by simp)) hgrow (Nat.le_refl _)).2
           have HB2 := Lib.hid (HB1.out.trans (hb2.mono HB1.out.size))
           have d1 := NewD w2 q2 c2 xs (list_in hown (fun _ => rfl) (by decide) rfl) HXW.out (by omega)
           have HO2 := Lib.hid hown
           have HS1 := Lib.hid HB1.out.size
           clear hown hgrow hmv hb2)
        | ((with_reducible refine d1.mono ?_); rintro e w3 ⟨o, mb, rfl, hm3, hb3, ho3⟩; have HB3 := Lib.hid (HB2.out.trans (hb3.mono HB2.out.size)); have d2 := rNew_any w3 p0 c0 xs (ListIn.lasts lasts_NoMem HX.out HB3.out HB3.out.size) (by omega); have HO3 := Lib.hid (own_below' HO2.out hb3); have HM3 := Lib.hid (And.intro hm3 ho3); have HZ3 := Lib.hid hb3.size; clear hm3 hb3 ho3)
        | ((with_reducible refine d2.mono ?_); rintro e w4 ⟨q4, d4, ys4, rfl, g4⟩
           have HO4 := Lib.hid (own_below' HO3.out g4.past.2)
           have HP4 : Hid (Pl W o mb (dNews xs) (dNews xs) w3.heap.size w4.heap.size q4 d4 ys4 w4) := Lib.hid (by
             refine ⟨HM3.out.1.later g4.past.2, g4.atB, HB3.out.size, Nat.le_refl _, fun k hk _ => ?_, fun k hk => HM3.out.2 k (Nat.lt_of_lt_of_le hk HB2.out.size), HB3.out.trans (g4.past.2.mono HB3.out.size)⟩
             obtain ⟨ab, st, m1, _, _⟩ := HM3.out.1
             refine Classical.byContradiction fun hn => ?_
             have := m1.inside k hn
             omega)
           clear g4))
      clear cl d1 d2
      go_loopw [36] (fun u wr => ∃ (k : Nat) (cs : List Value), k ≤ xs.length ∧ u = .int .i64 k ∧ Pl W o mb (dNews xs) (dNews xs) w3.heap.size w4.heap.size q4 d4 ys4 wr ∧ wr.ownsRow w1.heap.size 3 1 (.slice q2 xs.length c2) xs.length cs) (fun u _ => xs.length - (intOf u).toNat)
      case atStart => exact ⟨0, _, Nat.zero_le _, rfl, HP4.out, HO4.out⟩
      case round =>
        obtain ⟨k, cs, hk, rfl, hP, hO⟩ := hrel
        have HP := Lib.hid hP
        have HO := Lib.hid hO
        clear hP hO
        by_cases t1 : k < xs.length
        · obtain ⟨g2, rfl⟩ : ∃ g2, q2 = some ⟨g2, 0, none⟩ := by
            rcases HO.out.2 with ⟨e, h0⟩ | ⟨g, cap, cur, e, _⟩
            · omega
            · injection e with e1 e2 e3; exact ⟨g, e1⟩
          have hcl : cs.length = xs.length := by have := HO.out.1; omega
          have f0 : wr.cell? ⟨g2, k, none⟩ = some cs[k] := by rw [HO.out.cellAt k (by omega), List.getElem?_eq_getElem (by omega)]
          have f1 : ∀ i, wr.frozen? ⟨g2, i, none⟩ = false := fun i => HO.out.frozenAt _
          have hc2 : xs.length ≤ c2 ∧ c2 ≤ maxLen := by
            rcases HO.out.2 with ⟨e, h0⟩ | ⟨g, cap, cur, e, _, _, h1, h2, _⟩
            · cases e
            · injection e with e1 e2 e3; subst e3; exact ⟨h1, h2⟩
          unfold maxLen at hc2
          obtain ⟨hc21, hc22⟩ := hc2
          have hg := (HO2.out.lt g2 rfl)
          have hgo := HM3.out.2 g2 hg.2
          have HS := Lib.hid (HO.out.stored k (.int .i64 (-1))).1
          have HT : Hid (Pl W o mb (dNews xs) (dNews xs) w3.heap.size w4.heap.size q4 d4 ys4 (wr.setCell ⟨g2, k, none⟩ (.int .i64 (-1)))) := Lib.hid (HP.out.touch (g := g2) hgo (.inl (Nat.lt_of_lt_of_le hg.2 HZ3.out)) (by simp [World.setCell]) (HP.out.past.setCell (p := ⟨g2, k, none⟩) (Nat.le_trans HS1.out hg.1) _) (fun j hj => Below.heap_setCell wr ⟨g2, k, none⟩ _ j hj))
          clear hg hgo
          go_wp2_with fail
          exact ⟨⟨k + 1, _, t1, by go_num, HT.out, HS.out⟩, by simp [intOf]; omega⟩
        · obtain rfl : k = xs.length := by omega
          have HPP := HP
          have HOK := Lib.hid (DmOk.news xs)
          have HLN := Lib.hid (show (dNews xs).length ≤ 20 from by unfold dNews; rw [List.length_map]; exact n1)
          obtain ⟨D0, eD0⟩ : ∃ D0, dNews xs = D0 := ⟨_, rfl⟩
          rw [eD0] at HPP HOK HLN
          clear hk t1 HO HP HO0 HNW HBS HO2 HO3 HM3 HI h63 hby hfl HON eD0 HX HXW n1
          go_wp2_with fail
          go_loopw [7, 45] (fun v7 u wr => ∃ (k : Nat) (o : Nat → Nat) (D : Dm) (A B : Nat) (q : Option Addr) (d : Nat) (ys : List Rk), k ≤ l1.length ∧ u = .int .i64 k ∧ v7 = .slice q ys.length d ∧ DmOk D ∧ D.length ≤ 20 + k ∧ Pl W o mb D D A B q d ys wr) (fun _ u _ => l1.length - (intOf u).toNat)
          case atStart => exact ⟨0, o, D0, _, _, _, _, _, Nat.zero_le _, rfl, rfl, HOK.out, HLN.out, HPP.out⟩
          case round =>
            clear HPP HOK HLN HP4 HO4 HB3 HZ3
            obtain ⟨k, o, D, A, B, q, d, ys, hk, rfl, rfl, hok, hDl, hP⟩ := hrel
            have HP := Lib.hid hP
            have HK := Lib.hid hok
            have HD := Lib.hid hDl
            have hyl : ys.length = D.length := by rw [hP.r.shows, List.length_map]
            have HYL := Lib.hid hyl
            clear hP hok hDl hyl
            by_cases t2 : k < l1.length
            · obtain ⟨a1, ea1, ha1, hsp⟩ := sp_row H1.out HP.out.past k t2
              subst ea1
              have hwf := HW1.out _ (List.getElem_mem t2)
              obtain ⟨⟨kd, a, b, t, ⟨vk, vb, vbk, vo⟩, ⟨ak, ab, abk, ao⟩, y⟩, es⟩ : ∃ s, l1[k] = s := ⟨_, rfl⟩
              rw [es] at hsp hwf
              obtain ⟨f0, f1, f2, f3, f4, f5, f6, f7, f8, f9, f10, f11, f12⟩ := hsp
              simp only at f0 f1 f2 f3 f4 f5 f6 f7 f8 f9 f10 f11 f12
              have HA := Lib.hid (HP.out.later (below1 wr (.cells #[.int .i64 kd, .int .i64 a, .int .i64 b, .int .i64 t, .int .i64 vk, .int .u64 vb, .int .i64 vbk, .int .i64 vo, .int .i64 ak, .int .u64 ab, .int .i64 abk, .int .i64 ao, .int .u8 y] 43)))
              have HBX := Lib.hid (Box.new wr rfl [.int .i64 kd, .int .i64 a, .int .i64 b, .int .i64 t, .int .i64 vk, .int .u64 vb, .int .i64 vbk, .int .i64 vo, .int .i64 ak, .int .u64 ab, .int .i64 abk, .int .i64 ao, .int .u8 y] 43)
              have HOG := Lib.hid (HP.out.free (Nat.le_refl _))
              have e1 := one_any W o mb D A B q d ys _ HA.out kd a b t vk vb vbk vo ak ab abk ao y hwf HK.out (by have := HD.out; omega)
              have HWF := Lib.hid hwf.2.2.2.2.2.1.2.1
              have HK' := Lib.hid (plD_ok HK.out ⟨kd, a, b, t, ⟨vk, vb, vbk, vo⟩, ⟨ak, ab, abk, ao⟩, y⟩ hwf)
              have HD' := Lib.hid (Nat.le_trans (plD_len D ⟨kd, a, b, t, ⟨vk, vb, vbk, vo⟩, ⟨ak, ab, abk, ao⟩, y⟩) (Nat.succ_le_succ HD.out))
              obtain ⟨E, eE⟩ : ∃ E, plD D ⟨kd, a, b, t, ⟨vk, vb, vbk, vo⟩, ⟨ak, ab, abk, ao⟩, y⟩ = E := ⟨_, rfl⟩
              rw [eE] at e1 HK' HD'
              clear es hwf eE
              go_wp2_with (first
                | ((with_reducible refine e1.mono ?_); rintro e w5 ⟨o5, A5, B5, q5, d5, ys5, rfl, P5, On5, Ex5⟩
                   have HB5 := Lib.hid (box_same HBX.out On5.size (On5.block wr.heap.size HBX.out.1 HOG.out))
                   have hl5 : ys5.length ≤ 1000 := by
                     have h1 : ys5.length = E.length := by rw [P5.r.shows, List.length_map]
                     have := HD'.out
                     omega
                   have e2 := alike_any o5 mb E q5 d5 ys5 w5 P5.m P5.lies hl5
                   have HP5 := Lib.hid P5
                   clear P5 On5 Ex5 hl5)
                | ((with_reducible refine e2.mono ?_); rintro e w6 ⟨rfl, hb6⟩
                   have HP6 := Lib.hid (HP5.out.later hb6)
                   have B6 := HB5.out.later hb6
                   have b10 := B6.get 10 _ rfl
                   have d3 := BytesD o5 mb E w6 abk HWF.out HP6.out.m
                   obtain ⟨L, eL⟩ : ∃ L, dBytes E abk = L := ⟨_, rfl⟩
                   rw [eL] at d3
                   clear eL hb6 B6)
                | ((with_reducible refine d3.mono ?_); rintro e w7 ⟨p7, c7, rfl, hr7, hb7⟩
                   have HP7 := Lib.hid (HP6.out.later hb7)
                   have HR7 := Lib.hid hr7
                   clear hr7 hb7))
              have hn7 : p7 = none ∨ L.length ≤ c7 ∧ c7 ≤ maxLen := by
                rcases HR7.out.2 with ⟨e, h0⟩ | ⟨g, cap, cur, e, _, _, h1, h2, _⟩
                · injection e with e1; exact .inl e1
                · injection e with e1 e2 e3; subst e3; exact .inr ⟨h1, h2⟩
              have HN7 := Lib.hid hn7
              clear hn7 e1 e2 d3 b10
              go_loopw [72] (fun u wr => ∃ (i : Nat) (X : List By), i ≤ L.length ∧ u = .int .i64 i ∧ X.length = L.length ∧ Pl W o5 mb E E A5 B5 q5 d5 ys5 wr ∧ wr.ownsRow w6.heap.size 32 5 (.slice p7 L.length c7) L.length (X.flatMap byC)) (fun u _ => L.length - (intOf u).toNat)
              case atStart => exact ⟨0, L, Nat.zero_le _, rfl, rfl, HP7.out, HR7.out⟩
              case round =>
                obtain ⟨i, X, hi, rfl, hX, hQ, hS⟩ := hrel
                have HQ := Lib.hid hQ
                have HS := Lib.hid hS
                have HX := Lib.hid hX
                clear hQ hS hX
                by_cases t4 : i < L.length
                · obtain ⟨g, rfl⟩ : ∃ g, p7 = some ⟨g, 0, none⟩ := by
                    rcases HS.out.2 with ⟨e, h0⟩ | ⟨g, cap, cur, e, _⟩
                    · omega
                    · injection e with e1 e2 e3; exact ⟨g, e1⟩
                  have hcx : L.length ≤ c7 ∧ c7 ≤ maxLen := by
                    rcases HN7.out with e | e
                    · cases e
                    · exact e
                  unfold maxLen at hcx
                  obtain ⟨hcx1, hcx2⟩ := hcx
                  have hiX : i < X.length := by rw [HX.out]; exact t4
                  obtain ⟨z0, z1, z2, z3, z4, zf⟩ := own_by HS.out i hiX
                  have hg := HR7.out.lt g rfl
                  have HS2 := Lib.hid (wr_store HS.out hiX ⟨9, 0, 0, 0, 0⟩)
                  have HT2 : Hid (Pl W o5 mb E E A5 B5 q5 d5 ys5 (wr.setCells g (i * 5) (byC ⟨9, 0, 0, 0, 0⟩))) := Lib.hid (HQ.out.touch (g := g) (HP6.out.free hg.1) (.inr (Nat.le_trans HP6.out.hi hg.1)) (by rw [setCells_size]; exact Nat.le_refl _) (Past.setCells (Nat.le_trans HP6.out.past.size hg.1) _ _ ⟨Nat.le_refl _, HQ.out.past⟩).2 (fun j hj => setCells_heap g _ _ wr j hj))
                  clear hg
                  go_wp2_with fail
                  exact ⟨⟨i + 1, X.set i ⟨9, 0, 0, 0, 0⟩, t4, by go_num, by rw [List.length_set]; exact HX.out, HT2.out, HS2.out⟩, by simp [intOf]; omega⟩
                · obtain rfl : i = L.length := by omega
                  have hfin := HQ
                  clear HS HX t4 hi
                  go_wp2_with fail
                  exact ⟨⟨k + 1, o5, E, A5, B5, q5, d5, ys5, t2, by go_num, rfl, HK'.out, by have := HD'.out; omega, hfin.out⟩, by simp [intOf]; omega⟩
            · obtain rfl : k = l1.length := by omega
              have e2 := alike_any o mb D q d ys wr HP.out.m HP.out.lies (by have := HD.out; have := HYL.out; omega)
              have HPX := HP
              clear hk t2
              go_wp2_with (first
                | ((with_reducible refine e2.mono ?_); rintro e w6 ⟨rfl, hb6⟩; have HF := Lib.hid (HPX.out.later hb6); clear hb6))
              go_ret
              exact ⟨rfl, HF.out.past⟩
end Go.Proofs.Ytkbkgbkoplcgeaa
