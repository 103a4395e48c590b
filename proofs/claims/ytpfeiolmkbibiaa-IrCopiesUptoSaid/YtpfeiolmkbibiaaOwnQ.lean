/- The document's Replace (package latheref02). -/
import Derived.Test.YtpfeiolmkbibiaaOwnP
namespace Go.Proofs.Ytpfeiolmkbibiaa
open Go.RowKit Go.Maps
set_option linter.unusedVariables false
set_option linter.unusedSimpArgs false

/-- A place of the blocks: its instruction's own memory. -/
theorem cur_place {f : LI → LI} (hf : ∀ x, liC (f x) = liC x) {bs : List LB} {b k lo hi : Nat} {w : World} {bp : Option Addr} {bn bc : Nat} (hb : b < bs.length) (hk : k < bs[b].code.length) (h : ListOwn 67 1 blkC BlkOwn lo hi w bp bn bc (cur f bs b k)) :
    ∃ a c, lo ≤ a ∧ c ≤ hi ∧ InsOwn a c w bs[b].code[k] ∧ ∀ w', (∀ m, lo ≤ m → m < hi → (m < a ∨ c ≤ m) → w'.heap[m]? = w.heap[m]?) → InsOwn a c w' (f bs[b].code[k]) → ListOwn 67 1 blkC BlkOwn lo hi w' bp bn bc (cur f bs b (k + 1)) := by
  have hset := cur_set f bs b k hb hk
  have hlen := cur_len f bs b k
  have hget := cur_at f bs b k hb
  obtain ⟨cs', hcs'⟩ : ∃ cs', cs' = cur f bs b (k + 1) := ⟨_, rfl⟩
  obtain ⟨cs, hcs⟩ : ∃ cs, cs = cur f bs b k := ⟨_, rfl⟩
  rw [← hcs'] at hset ⊢
  rw [← hcs] at h hset hlen hget
  have hbc : b < cs.length := by rw [hlen]; exact hb
  rw [List.getElem?_eq_getElem hbc] at hget
  have hget := Option.some.inj hget
  obtain ⟨a1, b1, i1, i2, i3, hq1, up1⟩ := h.upd local_Blk b hbc
  rw [hget] at hq1
  unfold BlkOwn at hq1
  have hL : k < (pre f bs[b].code k).length := by rw [pre_len]; exact hk
  have ex := pre_get f bs[b].code k hk hL
  have hblk : blkC cs[b] = blkC bs[b] := by rw [hget]; rfl
  obtain ⟨a2, b2, j1, j2, j3, hq2, up2⟩ := hq1.upd local_Ins k hL
  rw [ex] at hq2
  refine ⟨a2, b2, by omega, by omega, hq2, fun w' hst hq' => ?_⟩
  rw [hset]
  refine up1 w' _ (by rw [hblk]; rfl) (fun m p q r => hst m p q (by omega)) ?_
  exact up2 w' _ (by rw [ex]; exact hf _) (fun m p q r => hst m (by omega) (by omega) r) hq'

set_option maxRecDepth 100000 in
set_option maxHeartbeats 4000000 in
theorem rReplace_own (f : LFn) (reg : Int) (v : Arg) (W : World) (h : FnIn W.heap.size W f) (hz : fnZ (fnD f) ≤ 1048576) :
    Calls Try.prog 35 #[.agg (fnC f).toArray, .int .i64 reg, .agg (argC v).toArray] W fun e w' => ∃ y, e = .returned (.agg (fnC y).toArray) ∧ fnD y = repF reg v (fnD f) ∧ Past W.heap.size W w' ∧ FnOwn W.heap.size w'.heap.size w' y := by
  have HIV : Hid ((Try.prog.info? 55).map (·.size) = some 3) := Lib.hid (by kernel_rfl)
  obtain ⟨nm, pp, pn, pc, ps, rt, bp, bn, bc, bs⟩ := f
  obtain ⟨vk, vn, vb⟩ := v
  show Calls Try.prog 35 #[.agg #[.string nm, .slice pp pn pc, .int .i64 rt, .slice bp bn bc], .int .i64 reg, .agg #[.int .i64 vk, .int .i64 vn, .int .u64 vb]] W _
  have P1 := (Past.refl (Nat.le_refl W.heap.size)).alloc (.cells #[.string nm, .slice pp pn pc, .int .i64 rt, .slice bp bn bc] 41)
  have F1 : Box W.heap.size [.string nm, .slice pp pn pc, .int .i64 rt, .slice bp bn bc] (W.alloc (.cells #[.string nm, .slice pp pn pc, .int .i64 rt, .slice bp bn bc] 41)) := Box.new W rfl _ _
  have z1 : (W.alloc (.cells #[.string nm, .slice pp pn pc, .int .i64 rt, .slice bp bn bc] 41)).heap.size = W.heap.size + 1 := by simp
  go_enter Try.func35, Try.ntmps35
  go_wp2_with fail
  generalize (W.alloc (.cells #[.string nm, .slice pp pn pc, .int .i64 rt, .slice bp bn bc] 41)) = w1 at *
  have P2 := P1.alloc (.cells #[.int .i64 vk, .int .i64 vn, .int .u64 vb] 55)
  have V2 : Box (W.heap.size + 1) (argC ⟨vk, vn, vb⟩) (w1.alloc (.cells #[.int .i64 vk, .int .i64 vn, .int .u64 vb] 55)) := Box.new w1 (by omega) _ _
  have z2 : (w1.alloc (.cells #[.int .i64 vk, .int .i64 vn, .int .u64 vb] 55)).heap.size = W.heap.size + 2 := by simp; omega
  generalize (w1.alloc (.cells #[.int .i64 vk, .int .i64 vn, .int .u64 vb] 55)) = w2 at *
  have P4 := P2.alloc (.cells #[.string { data := #[] }, .slice none 0 0, .int .i64 0, .slice none 0 0] 41)
  have V4 := V2.alloc (.cells #[.string { data := #[] }, .slice none 0 0, .int .i64 0, .slice none 0 0] 41)
  have Z4 : Box (W.heap.size + 1 + 1) [.string { data := #[] }, .slice none 0 0, .int .i64 0, .slice none 0 0] (w2.alloc (.cells #[.string { data := #[] }, .slice none 0 0, .int .i64 0, .slice none 0 0] 41)) := Box.new w2 (by omega) _ _
  have z4 : (w2.alloc (.cells #[.string { data := #[] }, .slice none 0 0, .int .i64 0, .slice none 0 0] 41)).heap.size = W.heap.size + 3 := by simp; omega
  generalize (w2.alloc (.cells #[.string { data := #[] }, .slice none 0 0, .int .i64 0, .slice none 0 0] 41)) = w4 at *
  clear P1 P2 F1 V2 z1 z2
  refine (rCopyFunc_own ⟨nm, pp, pn, pc, ps, rt, bp, bn, bc, bs⟩ w4 (past_lasts lasts_Fn h P4) hz).mono ?_
  rintro e w5 ⟨y, he5, hdy, hp5, d, ho1, ho2⟩
  obtain ⟨nm', pp', pn', pc', ps', rt', bp', bn', bc', bs'⟩ := y
  simp only at ho1 ho2
  obtain rfl : bn' = bs'.length := ho2.1
  obtain rfl : e = .returned (.agg #[.string nm', .slice pp' pn' pc', .int .i64 rt', .slice bp' bs'.length bc']) := he5
  have l1 := ho1.le
  have l2 := ho2.le
  have P5 := (P4.trans ⟨P4.size, hp5.2.mono P4.size⟩).alloc (.cells #[.string nm', .slice pp' pn' pc', .int .i64 rt', .slice bp' bs'.length bc'] 41)
  have V5 := (V4.later hp5.2).alloc (.cells #[.string nm', .slice pp' pn' pc', .int .i64 rt', .slice bp' bs'.length bc'] 41)
  have Z5 := (Z4.later hp5.2).alloc (.cells #[.string nm', .slice pp' pn' pc', .int .i64 rt', .slice bp' bs'.length bc'] 41)
  have G5 : Box w5.heap.size [.string nm', .slice pp' pn' pc', .int .i64 rt', .slice bp' bs'.length bc'] (w5.alloc (.cells #[.string nm', .slice pp' pn' pc', .int .i64 rt', .slice bp' bs'.length bc'] 41)) := Box.new w5 rfl _ _
  have al5 : Past w5.heap.size w5 (w5.alloc (.cells #[.string nm', .slice pp' pn' pc', .int .i64 rt', .slice bp' bs'.length bc'] 41)) := (Past.refl (Nat.le_refl _)).alloc _
  have o5 := ho1.stay local_NoOwn (al5.stay (Nat.le_of_lt_succ (Nat.lt_succ_of_le l2)))
  have o6 := ho2.stay local_Blk (al5.stay (Nat.le_refl _))
  have s5 : w5.heap.size < (w5.alloc (.cells #[.string nm', .slice pp' pn' pc', .int .i64 rt', .slice bp' bs'.length bc'] 41)).heap.size := by simp
  have g0 := G5.get 0 _ rfl
  go_wp2_with fail
  generalize (w5.alloc (.cells #[.string nm', .slice pp' pn' pc', .int .i64 rt', .slice bp' bs'.length bc'] 41)) = w6 at *
  obtain ⟨hi, ehi⟩ : ∃ hi, w5.heap.size = hi := ⟨_, rfl⟩
  obtain ⟨lo, elo⟩ : ∃ lo, w4.heap.size = lo := ⟨_, rfl⟩
  rw [ehi] at G5 o6 s5 l2
  rw [elo] at o5 l1
  simp only [ehi]
  have hlo : W.heap.size + 3 = lo := by omega
  have KK : (Past W.heap.size W w6 ∧ Box (W.heap.size + 1) (argC ⟨vk, vn, vb⟩) w6 ∧ Box (W.heap.size + 1 + 1) [.string { data := #[] }, .slice none 0 0, .int .i64 0, .slice none 0 0] w6 ∧ Box hi [.string nm', .slice pp' pn' pc', .int .i64 rt', .slice bp' bs'.length bc'] w6 ∧ hi < w6.heap.size ∧ ListOwn 3 1 intC NoOwn lo d w6 pp' pn' pc' ps') := ⟨P5, V5, Z5, G5, s5, o5⟩
  have HK : Hid (∀ w w' row, (∀ g, row = some g → d ≤ g ∧ g < hi) → w.grownBy w' row → (Past W.heap.size W w ∧ Box (W.heap.size + 1) (argC ⟨vk, vn, vb⟩) w ∧ Box (W.heap.size + 1 + 1) [.string { data := #[] }, .slice none 0 0, .int .i64 0, .slice none 0 0] w ∧ Box hi [.string nm', .slice pp' pn' pc', .int .i64 rt', .slice bp' bs'.length bc'] w ∧ hi < w.heap.size ∧ ListOwn 3 1 intC NoOwn lo d w pp' pn' pc' ps') → (Past W.heap.size W w' ∧ Box (W.heap.size + 1) (argC ⟨vk, vn, vb⟩) w' ∧ Box (W.heap.size + 1 + 1) [.string { data := #[] }, .slice none 0 0, .int .i64 0, .slice none 0 0] w' ∧ Box hi [.string nm', .slice pp' pn' pc', .int .i64 rt', .slice bp' bs'.length bc'] w' ∧ hi < w'.heap.size ∧ ListOwn 3 1 intC NoOwn lo d w' pp' pn' pc' ps')) := Lib.hid (by
    rintro w w' row hrow hg ⟨i1, i2, i3, i4, i5, i6⟩
    have hs := hg.size
    exact ⟨i1.kept hg (fun g e => by have := (hrow g e).1; omega), i2.kept hg (fun e => by have := (hrow _ e.symm).1; omega), i3.kept hg (fun e => by have := (hrow _ e.symm).1; omega), i4.kept hg (fun e => by have := (hrow _ e.symm).2; omega), by omega,
      i6.stay local_NoOwn (grown_stay hg (by omega) (fun g e => by have := (hrow g e).1; omega))⟩)
  have HI0 := Lib.hid (And.intro KK o6)
  have HDY := Lib.hid hdy
  have HBD := Lib.hid (show bs'.length ≤ bc' ∧ bc' ≤ maxLen from ⟨by
    rcases id o6.2.1.2 with ⟨e, h0⟩ | ⟨g, cap, cu, e, _, _, h1, h2, _⟩
    · rw [h0]; exact Nat.zero_le _
    · injection e with e1 e2 e3; rw [e3]; exact h1, by
    rcases id o6.2.1.2 with ⟨e, h0⟩ | ⟨g, cap, cu, e, _, _, h1, h2, _⟩
    · injection e with e1 e2 e3; rw [e3]; exact Nat.zero_le _
    · injection e with e1 e2 e3; rw [e3]; exact h2⟩)
  clear KK o5 o6 P4 P5 V4 V5 Z4 Z5 G5 al5 ho1 ho2 hp5 hdy g0 h hz s5 z4
  obtain ⟨kb1, kb2⟩ := HBD.out
  unfold maxLen at kb2
  go_loopw [8] (fun t wr => ∃ b : Nat, b ≤ bs'.length ∧ t = .int .i64 b ∧ (Past W.heap.size W wr ∧ Box (W.heap.size + 1) (argC ⟨vk, vn, vb⟩) wr ∧ Box (W.heap.size + 1 + 1) [.string { data := #[] }, .slice none 0 0, .int .i64 0, .slice none 0 0] wr ∧ Box hi [.string nm', .slice pp' pn' pc', .int .i64 rt', .slice bp' bs'.length bc'] wr ∧ hi < wr.heap.size ∧ ListOwn 3 1 intC NoOwn lo d wr pp' pn' pc' ps') ∧ ListOwn 67 1 blkC BlkOwn d hi wr bp' bs'.length bc' (cur (lrep reg ⟨vk, vn, vb⟩) bs' b 0)) (fun t _ => bs'.length - (intOf t).toNat)
  case atStart => exact ⟨0, Nat.zero_le _, rfl, HI0.out.1, by rw [cur_0]; exact HI0.out.2⟩
  case round =>
    obtain ⟨b, hb, rfl, hKK, hO⟩ := hrel
    have g3 := hKK.2.2.2.1.get 3 _ rfl
    by_cases hlt : b < bs'.length
    · have HKK := Lib.hid hKK
      have HO := Lib.hid hO
      clear hKK hO
      go_wp2_with fail
      clear g3
      go_loopw [9] (fun t wr => ∃ k : Nat, k ≤ bs'[b].code.length ∧ t = .int .i64 k ∧ (Past W.heap.size W wr ∧ Box (W.heap.size + 1) (argC ⟨vk, vn, vb⟩) wr ∧ Box (W.heap.size + 1 + 1) [.string { data := #[] }, .slice none 0 0, .int .i64 0, .slice none 0 0] wr ∧ Box hi [.string nm', .slice pp' pn' pc', .int .i64 rt', .slice bp' bs'.length bc'] wr ∧ hi < wr.heap.size ∧ ListOwn 3 1 intC NoOwn lo d wr pp' pn' pc' ps') ∧ ListOwn 67 1 blkC BlkOwn d hi wr bp' bs'.length bc' (cur (lrep reg ⟨vk, vn, vb⟩) bs' b k)) (fun t _ => bs'[b].code.length - (intOf t).toNat)
      case atStart => exact ⟨0, Nat.zero_le _, rfl, HKK.out, HO.out⟩
      case round =>
        obtain ⟨k, hk, rfl, hKK, hO⟩ := hrel
        have g3 := hKK.2.2.2.1.get 3 _ rfl
        have hws := hKK.2.2.2.2.1
        have hrows := cur_rows (f := lrep reg ⟨vk, vn, vb⟩) (fun _ => rfl) (hO.lies (m := 1) (by decide) (fun _ => rfl) (fun _ _ _ _ hb hq => BlkOwn.lies hb hq) (Nat.le_of_lt hws))
        obtain ⟨a, rfl, ha, hc⟩ := blk_row hrows b hlt
        have hcd := hrows.2.2.2.2 bs'[b] (List.getElem_mem hlt)
        have d1 : bs'[b].n = bs'[b].code.length := hcd.1
        have d2 : bs'[b].n ≤ bs'[b].k := hcd.2.1
        have d3 : bs'[b].k ≤ maxLen := hcd.2.2.1
        rw [d1] at hc d2
        unfold maxLen at d3
        clear d1
        by_cases hkl : k < bs'[b].code.length
        · obtain ⟨u, hu, hu2, hins⟩ := li_row hcd k hkl
          obtain ⟨y0, y1, y2, y3, y4, y5, y6⟩ := hins
          obtain ⟨a2, c2, hla, hlc, hIO, hup⟩ := cur_place (f := lrep reg ⟨vk, vn, vb⟩) (fun _ => rfl) hlt hkl hO
          obtain ⟨x, ex⟩ : ∃ x, bs'[b].code[k] = x := ⟨_, rfl⟩
          rw [ex] at hIO hup y0 y1 y2 y3 y4 y5 y6
          obtain ⟨⟨h1, h2, h3, h4⟩, hT⟩ := hIO
          rw [h1] at h2 h3 h4 y5
          rw [hu] at hc
          have hclt := h2.lt
          have hcap : x.1.args.length ≤ x.1.ac ∧ x.1.ac ≤ maxLen := by
            rcases id h2.2 with ⟨e, h0⟩ | ⟨g, cap, cu, e, _, _, h1, h2, _⟩
            · injection e with e1 e2 e3; rw [h0, e3]; exact ⟨Nat.le_refl _, Nat.zero_le _⟩
            · injection e with e1 e2 e3; rw [e3]; exact ⟨h1, h2⟩
          obtain ⟨hcap1, hcap2⟩ := hcap
          unfold maxLen at hcap2
          have HKK := Lib.hid hKK
          have HROW := Lib.hid h2
          have HCLT := Lib.hid hclt
          have HT := Lib.hid hT
          have HUP := Lib.hid hup
          have H1 := Lib.hid h1
          have H3 := Lib.hid h3
          have H4 := Lib.hid h4.le
          have HU := Lib.hid hu
          clear hKK hrows hcd h2 hclt hT hup h1 h3 h4 hO hu
          go_wp2_with fail
          generalize wr = wo at *
          go_loopw [11] (fun t wi => ∃ j : Nat, j ≤ x.1.args.length ∧ t = .int .i64 j ∧ wo.grownBy wi (Value.slice x.1.ap x.1.args.length x.1.ac).ownBlock ∧ wi.ownsRow a2 55 3 (.slice x.1.ap x.1.args.length x.1.ac) x.1.args.length ((rl reg ⟨vk, vn, vb⟩ x.1.args j).flatMap argC)) (fun t _ => x.1.args.length - (intOf t).toNat)
          case atStart => exact ⟨0, Nat.zero_le _, rfl, World.grownBy.refl _ _, by rw [rl_0]; exact HROW.out⟩
          case round =>
            obtain ⟨j, hj, rfl, hg, ho⟩ := hrel
            by_cases hjl : j < x.1.args.length
            · have hKK := HK.out wo wr _ (fun g e => ⟨by have := (HCLT.out g e).1; omega, by have := H3.out g e; omega⟩) hg HKK.out
              obtain ⟨g, eap⟩ : ∃ g, x.1.ap = some ⟨g, 0, none⟩ := by
                rcases id ho.2 with ⟨_, h0⟩ | ⟨g, cap, cu, e, _⟩
                · omega
                · injection e with e1 e2 e3; exact ⟨g, e1⟩
              rw [eap] at ho hg
              have hil : j < (rl reg ⟨vk, vn, vb⟩ x.1.args j).length := by rw [rl_len _ _ _ _ hj]; exact hjl
              have hrg := own_range (f := argC) (m := 3) (fun _ => rfl) ho j hil
              rw [rl_get _ _ _ _ hjl] at hrg
              have hth := own_there (f := argC) (m := 3) (fun _ => rfl) ho j hil
              have f0 := hrg 0 _ rfl
              have f1 := hrg 1 _ rfl
              simp only [Nat.add_zero] at f0
              have v0 := hKK.2.1.get 0 _ rfl
              have v1 := hKK.2.1.get 1 _ rfl
              have v2 := hKK.2.1.get 2 _ rfl
              have HRS := Lib.hid (rl_succ reg ⟨vk, vn, vb⟩ x.1.args j hjl)
              have HTH := Lib.hid hth
              have HO2 := Lib.hid ho
              clear hrg hth ho hKK
              by_cases hk1 : x.1.args[j].kind = 1
              · by_cases hn1 : x.1.args[j].n = reg
                · have hu : rp reg ⟨vk, vn, vb⟩ x.1.args[j] = ⟨vk, vn, vb⟩ := by unfold rp isU; rw [hk1, hn1]; simp
                  have HU2 := Lib.hid hu
                  have hn2 : (x.1.args[j].n == reg) = true := by simpa using hn1
                  have hk2 : (x.1.args[j].kind == 1) = true := by simpa using hk1
                  clear hu hk1 hn1
                  go_wp2_with (first
                    | (refine wpList_store_mid rfl 55 (.tmp 66) (.tmp 65) rfl g (j * 3) (argC ⟨vk, vn, vb⟩).toArray (by simp [go_sem]) (by simp [go_sem, argC]) HTH.out HIV.out (all_oneCell_toArray (argC_one1 _)) ?_))
                  have hset := setCells_own (argC ⟨vk, vn, vb⟩) (j * 3) HO2.out
                  rw [sets_flat argC 3 (by decide) (fun _ => rfl) _ j hil _] at hset
                  exact ⟨⟨j + 1, by omega, by go_num, grown_setCells _ _ hg, by rw [HRS.out, HU2.out]; exact hset⟩, by simp [intOf]; omega⟩
                · have hu : isU reg x.1.args[j] = false := by unfold isU; rw [Bool.eq_false_iff]; intro hx; simp only [Bool.and_eq_true, beq_iff_eq] at hx; exact hn1 hx.2
                  have HSM := Lib.hid (rl_same reg ⟨vk, vn, vb⟩ x.1.args j hjl hu)
                  have hn2 : (x.1.args[j].n == reg) = false := by simpa using hn1
                  have hk2 : (x.1.args[j].kind == 1) = true := by simpa using hk1
                  clear hu hk1 hn1
                  go_wp2_with fail
                  exact ⟨⟨j + 1, by omega, by go_num, by rw [eap]; exact hg, by rw [HSM.out, eap]; exact HO2.out⟩, by simp [intOf]; omega⟩
              · have hu : isU reg x.1.args[j] = false := by unfold isU; rw [Bool.eq_false_iff]; intro hx; simp only [Bool.and_eq_true, beq_iff_eq] at hx; exact hk1 hx.1
                have HSM := Lib.hid (rl_same reg ⟨vk, vn, vb⟩ x.1.args j hjl hu)
                have hk2 : (x.1.args[j].kind == 1) = false := by simpa using hk1
                clear hu hk1
                go_wp2_with fail
                exact ⟨⟨j + 1, by omega, by go_num, by rw [eap]; exact hg, by rw [HSM.out, eap]; exact HO2.out⟩, by simp [intOf]; omega⟩
            · obtain rfl : j = x.1.args.length := by omega
              rw [rl_all] at ho
              go_wp2_with fail
              have hKK := HK.out wo wr _ (fun g e => ⟨by have := (HCLT.out g e).1; omega, by have := H3.out g e; omega⟩) hg HKK.out
              refine ⟨⟨k + 1, by omega, by go_num, hKK, HUP.out wr (fun m h1 h2 h3 => hg.block m (by have := HKK.out.2.2.2.2.1; omega) (fun e => by have h5 := (HCLT.out m e.symm).1; have h6 := H3.out m e.symm; omega)) ?_⟩, by simp [intOf]; omega⟩
              obtain ⟨t1, t2, t3, t4⟩ := HT.out
              exact ⟨⟨by show x.1.al = (x.1.args.map (rp reg ⟨vk, vn, vb⟩)).length; rw [List.length_map]; exact H1.out, by show wr.ownsRow a2 55 3 (.slice x.1.ap x.1.al x.1.ac) x.1.al _; rw [H1.out]; exact ho, by show ∀ g, (Value.slice x.1.ap x.1.al x.1.ac).ownBlock = some g → g < c2; rw [H1.out]; exact H3.out, spread_NoOwn H4.out _⟩, t1, t2.kept hg (rows_apart t2 HROW.out (by decide)), t3, spread_NoOwn t4.le _⟩
        · obtain rfl : k = bs'[b].code.length := by omega
          have HKK := Lib.hid hKK
          have HO := Lib.hid hO
          clear hKK hO hrows hcd
          go_wp2_with fail
          refine ⟨⟨b + 1, by omega, by go_num, HKK.out, by rw [cur_next _ _ b hlt]; exact HO.out⟩, by simp [intOf]; omega⟩
    · obtain rfl : b = bs'.length := by omega
      rw [cur_all] at hO
      obtain ⟨P6, V6, Z6, G6, s6, L6⟩ := hKK
      have x0 := G6.get 0 _ rfl
      have x1 := G6.get 1 _ rfl
      have x2 := G6.get 2 _ rfl
      have x3 := G6.get 3 _ rfl
      have r0 := Z6.get 0 _ rfl
      have r1 := Z6.get 1 _ rfl
      have r2 := Z6.get 2 _ rfl
      have r3 := Z6.get 3 _ rfl
      have rf := Z6.2.1
      go_wp2_with fail
      have Z8 := (((Z6.set 0 (.string nm')).set 1 (.slice pp' pn' pc')).set 2 (.int .i64 rt')).set 3 (.slice bp' bs'.length bc')
      have f0 := Z8.get 0 _ rfl
      have f1 := Z8.get 1 _ rfl
      have f2 := Z8.get 2 _ rfl
      have f3 := Z8.get 3 _ rfl
      have st8 : Stay lo hi wr ((((wr.setCell ⟨W.heap.size + 1 + 1, 0, none⟩ (.string nm')).setCell ⟨W.heap.size + 1 + 1, 1, none⟩ (.slice pp' pn' pc')).setCell ⟨W.heap.size + 1 + 1, 2, none⟩ (.int .i64 rt')).setCell ⟨W.heap.size + 1 + 1, 3, none⟩ (.slice bp' bs'.length bc')) :=
        fun k h1 h2 => (Below.heap_setCell _ _ _ _ (by dsimp only; omega)).trans ((Below.heap_setCell _ _ _ _ (by dsimp only; omega)).trans ((Below.heap_setCell _ _ _ _ (by dsimp only; omega)).trans (Below.heap_setCell _ _ _ _ (by dsimp only; omega))))
      have l8 : ((((wr.setCell ⟨W.heap.size + 1 + 1, 0, none⟩ (.string nm')).setCell ⟨W.heap.size + 1 + 1, 1, none⟩ (.slice pp' pn' pc')).setCell ⟨W.heap.size + 1 + 1, 2, none⟩ (.int .i64 rt')).setCell ⟨W.heap.size + 1 + 1, 3, none⟩ (.slice bp' bs'.length bc')).heap.size = wr.heap.size := by simp [World.setCell]
      have P8 := (((P6.set (a := ⟨W.heap.size + 1 + 1, 0, none⟩) (by dsimp only; omega) (.string nm')).set (a := ⟨W.heap.size + 1 + 1, 1, none⟩) (by dsimp only; omega) (.slice pp' pn' pc')).set (a := ⟨W.heap.size + 1 + 1, 2, none⟩) (by dsimp only; omega) (.int .i64 rt')).set (a := ⟨W.heap.size + 1 + 1, 3, none⟩) (by dsimp only; omega) (.slice bp' bs'.length bc')
      refine bodyPost_ret (v := .agg #[.string nm', .slice pp' pn' pc', .int .i64 rt', .slice bp' bs'.length bc']) (by simp [results, Try.results35, go_sem, f0, f1, f2, f3]) rfl ⟨⟨nm', pp', pn', pc', ps', rt', bp', bs'.length, bc', bs'.map fun c => { c with code := c.code.map (lrep reg ⟨vk, vn, vb⟩) }⟩, rfl, ?_, P8, d, ?_, ?_⟩
      · have e := HDY.out
        unfold fnD at e ⊢
        simp only [PFn.mk.injEq] at e
        obtain ⟨e1, e2, e3, e4⟩ := e
        unfold repF
        simp only [rep_data, e1, e2, e3, e4]
      · obtain ⟨o1, o2, o3, o4⟩ := L6.stay local_NoOwn (st8.mono (Nat.le_refl _) (by omega))
        exact ⟨o1, o2.mono (by omega), o3, o4.down (by omega)⟩
      · rw [l8]
        obtain ⟨o1, o2, o3, o4⟩ := hO.stay local_Blk (st8.mono (by omega) (Nat.le_refl _))
        exact ⟨o1, o2, fun g hg => by have := o3 g hg; omega, o4.up (by omega)⟩
end Go.Proofs.Ytpfeiolmkbibiaa
