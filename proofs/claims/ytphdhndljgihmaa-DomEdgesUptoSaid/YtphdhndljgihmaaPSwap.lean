/- The law's Swapped. -/
import Derived.Test.YtphdhndljgihmaaPPure
import Derived.Deep.RegionHeld3
namespace Go.Proofs.Ytphdhndljgihmaa
open Go.RowKit Go.Maps
set_option linter.unusedVariables false
set_option linter.unusedSimpArgs false

def fT (a b : Nat) (x : LI) : LI := (x.1, x.2.map (mvI a b))
/-- Own elements at a world in which their row alone has turned. -/
theorem own_el {α : Type} {ty m : Nat} {cel : α → List Value} {Q : Nat → Nat → World → α → Prop} {E : Nat → World → α → Prop} (hQ : Local Q) (hQE : ∀ a b w x, b ≤ w.heap.size → Q a b w x → E w.heap.size w x) {a b g : Nat} {w w' : World} {n c : Nat} {xs : List α}
    (h : ListOwn ty m cel Q a b w (some ⟨g, 0, none⟩) n c xs) (hb : b ≤ w'.heap.size) (hs : ∀ k, a ≤ k → k < b → k ≠ g → w'.heap[k]? = w.heap[k]?) : ∀ x ∈ xs, E w'.heap.size w' x := fun x hx => by
  obtain ⟨i, hi, rfl⟩ := List.mem_iff_getElem.1 hx
  obtain ⟨h1, h2, h3, h4⟩ := h
  obtain ⟨a', b', k1, k2, k3, k4, k5, k6⟩ := h4.at hQ i hi
  have hg := k4 g rfl
  exact hQE a' b' w' _ (by omega) (hQ a' b' w w' _ (fun k p q => hs k (by omega) (by omega) (by omega)) k5)
theorem swap_get {α : Type} {L : List α} {a b : Nat} {xa xb : α} (h1 : L[a]? = some xa) (h2 : L[b]? = some xb) (i : Nat) : ((L.set a xb).set b xa)[mvN a b i]? = L[i]? := by
  have la := (List.getElem?_eq_some_iff.1 h1).1
  have lb := (List.getElem?_eq_some_iff.1 h2).1
  unfold mvN
  by_cases e1 : i = a
  · subst e1
    rw [if_pos rfl, List.getElem?_set, if_pos rfl, List.length_set, if_pos lb, h1]
  · by_cases e2 : i = b
    · subst e2
      rw [if_neg e1, if_pos rfl, List.getElem?_set, if_neg e1, List.getElem?_set, if_pos rfl, if_pos la, h2]
    · rw [if_neg e1, if_neg e2, List.getElem?_set, if_neg (fun h => e2 h.symm), List.getElem?_set, if_neg (fun h => e1 h.symm)]
theorem swap_perm {D : PFn} {f y : LFn} {bs2 : List LB} {a b : Nat} {xa xb : LB} {nm : ByteArray} {pp bp : Option Addr} {pn pc bn bc : Nat} {ps : List Int} {rt : Int} (hD : fnD f = D) (hy : fnD y = fnD f) (h2 : (y.bs.map fun c => ({ c with code := c.code.map (fT a b) } : LB)) = bs2) (ha : bs2[a]? = some xa) (hb : bs2[b]? = some xb) :
    Perm a b D.bs (fnD ⟨nm, pp, pn, pc, ps, rt, bp, bn, bc, (bs2.set a xb).set b xa⟩).bs := by
  have hbs : D.bs = y.bs.map blkD := by rw [← hD, ← hy]; rfl
  have hl : bs2.length = y.bs.length := by rw [← h2, List.length_map]
  refine ⟨?_, fun i hi => ?_⟩
  · show (((bs2.set a xb).set b xa).map blkD).length = _
    rw [List.length_map, List.length_set, List.length_set, hbs, List.length_map, hl]
  · rw [hbs, List.length_map] at hi
    show (((bs2.set a xb).set b xa).map blkD).getD (mvN a b i) [] = _
    rw [List.getD_eq_getElem?_getD, List.getElem?_map, swap_get ha hb, hbs, List.getD_eq_getElem?_getD, List.getElem?_map, ← h2, List.getElem?_map, List.getElem?_eq_getElem hi]
    unfold blkD
    simp only [Option.map_some, Option.getD_some, List.map_map]
    rfl
theorem blkC_map (L : List LB) : L.flatMap blkC = L.map (fun c => Value.slice c.p c.n c.k) := by
  induction L with
  | nil => rfl
  | cons x r ih => rw [List.flatMap_cons, List.map_cons, ih]; rfl
set_option maxRecDepth 100000 in
set_option maxHeartbeats 4000000 in
theorem Swapped_own (f : LFn) (a b : Nat) (W : World) (h : FnIn W.heap.size W f) (hz : fnZ (fnD f) ≤ 1048576) (ha : a < f.bs.length) (hb : b < f.bs.length) :
    Calls Try.prog 28 #[.agg (fnC f).toArray, .int .i64 a, .int .i64 b] W fun e w' => ∃ z, e = .returned (.agg (fnC z).toArray) ∧ Perm a b (fnD f).bs (fnD z).bs ∧ Past W.heap.size W w' ∧ FnIn w'.heap.size w' z := by
  have HLN := Lib.hid (show f.bs.length = (fnD f).bs.length by simp [fnD])
  obtain ⟨D, eD⟩ : ∃ D, fnD f = D := ⟨_, rfl⟩
  have HDD := Lib.hid eD
  obtain ⟨nm, pp, pn, pc, ps, rt, bp, bn, bc, bs⟩ := f
  show Calls Try.prog 28 #[.agg #[.string nm, .slice pp pn pc, .int .i64 rt, .slice bp bn bc], .int .i64 a, .int .i64 b] W _
  have P1 := (Past.refl (Nat.le_refl W.heap.size)).alloc (.cells #[.string nm, .slice pp pn pc, .int .i64 rt, .slice bp bn bc] 25)
  have F1 : Box W.heap.size [.string nm, .slice pp pn pc, .int .i64 rt, .slice bp bn bc] (W.alloc (.cells #[.string nm, .slice pp pn pc, .int .i64 rt, .slice bp bn bc] 25)) := Box.new W rfl _ _
  have z1 : (W.alloc (.cells #[.string nm, .slice pp pn pc, .int .i64 rt, .slice bp bn bc] 25)).heap.size = W.heap.size + 1 := by simp
  go_enter Try.func28, Try.ntmps28
  go_wp2_with fail
  generalize (W.alloc (.cells #[.string nm, .slice pp pn pc, .int .i64 rt, .slice bp bn bc] 25)) = w1 at *
  have P4 := P1.alloc (.cells #[.string { data := #[] }, .slice none 0 0, .int .i64 0, .slice none 0 0] 25)
  have Z4 : Box (W.heap.size + 1) [.string { data := #[] }, .slice none 0 0, .int .i64 0, .slice none 0 0] (w1.alloc (.cells #[.string { data := #[] }, .slice none 0 0, .int .i64 0, .slice none 0 0] 25)) := Box.new w1 (by omega) _ _
  have z4 : (w1.alloc (.cells #[.string { data := #[] }, .slice none 0 0, .int .i64 0, .slice none 0 0] 25)).heap.size = W.heap.size + 2 := by simp; omega
  generalize (w1.alloc (.cells #[.string { data := #[] }, .slice none 0 0, .int .i64 0, .slice none 0 0] 25)) = w4 at *
  clear P1 F1 z1
  refine (rCopyFunc_own ⟨nm, pp, pn, pc, ps, rt, bp, bn, bc, bs⟩ w4 (past_lasts lasts_Fn h P4) hz).mono ?_
  rintro e w5 ⟨y, he5, hdy, hp5, d, ho1, ho2⟩
  obtain ⟨nm', pp', pn', pc', ps', rt', bp', bn', bc', bs'⟩ := y
  simp only at ho1 ho2
  obtain rfl : bn' = bs'.length := ho2.1
  obtain rfl : e = .returned (.agg #[.string nm', .slice pp' pn' pc', .int .i64 rt', .slice bp' bs'.length bc']) := he5
  have hbl : bs'.length = bs.length := by
    have h1 : (fnD ⟨nm', pp', pn', pc', ps', rt', bp', bs'.length, bc', bs'⟩).bs.length = (fnD ⟨nm, pp, pn, pc, ps, rt, bp, bn, bc, bs⟩).bs.length := by rw [hdy]
    simpa [fnD] using h1
  have ha' : a < bs'.length := by rw [hbl]; exact ha
  have hb' : b < bs'.length := by rw [hbl]; exact hb
  have HAB := Lib.hid (And.intro ha' hb')
  clear hbl ha' hb' ha hb
  have l1 := ho1.le
  have l2 := ho2.le
  have P5 := (P4.trans ⟨P4.size, hp5.2.mono P4.size⟩).alloc (.cells #[.string nm', .slice pp' pn' pc', .int .i64 rt', .slice bp' bs'.length bc'] 25)
  have Z5 := (Z4.later hp5.2).alloc (.cells #[.string nm', .slice pp' pn' pc', .int .i64 rt', .slice bp' bs'.length bc'] 25)
  have G5 : Box w5.heap.size [.string nm', .slice pp' pn' pc', .int .i64 rt', .slice bp' bs'.length bc'] (w5.alloc (.cells #[.string nm', .slice pp' pn' pc', .int .i64 rt', .slice bp' bs'.length bc'] 25)) := Box.new w5 rfl _ _
  have al5 : Past w5.heap.size w5 (w5.alloc (.cells #[.string nm', .slice pp' pn' pc', .int .i64 rt', .slice bp' bs'.length bc'] 25)) := (Past.refl (Nat.le_refl _)).alloc _
  have o5 := ho1.stay local_NoOwn (al5.stay (Nat.le_of_lt_succ (Nat.lt_succ_of_le l2)))
  have o6 := ho2.stay local_Blk (al5.stay (Nat.le_refl _))
  have s5 : w5.heap.size < (w5.alloc (.cells #[.string nm', .slice pp' pn' pc', .int .i64 rt', .slice bp' bs'.length bc'] 25)).heap.size := by simp
  have g0 := G5.get 0 _ rfl
  have g3 := G5.get 3 _ rfl
  go_wp2_with fail
  generalize (w5.alloc (.cells #[.string nm', .slice pp' pn' pc', .int .i64 rt', .slice bp' bs'.length bc'] 25)) = w6 at *
  obtain ⟨hi, ehi⟩ : ∃ hi, w5.heap.size = hi := ⟨_, rfl⟩
  obtain ⟨lo, elo⟩ : ∃ lo, w4.heap.size = lo := ⟨_, rfl⟩
  rw [ehi] at G5 o6 s5 l2
  rw [elo] at o5 l1
  simp only [ehi]
  have hlo : W.heap.size + 2 = lo := by omega
  have KK : (Past W.heap.size W w6 ∧ Box (W.heap.size + 1) [.string { data := #[] }, .slice none 0 0, .int .i64 0, .slice none 0 0] w6 ∧ Box hi [.string nm', .slice pp' pn' pc', .int .i64 rt', .slice bp' bs'.length bc'] w6 ∧ hi < w6.heap.size ∧ ListOwn 3 1 intC NoOwn lo d w6 pp' pn' pc' ps') := ⟨P5, Z5, G5, s5, o5⟩
  have HK : Hid (∀ w w' row, (∀ g, row = some g → d ≤ g ∧ g < hi) → w.grownBy w' row → (Past W.heap.size W w ∧ Box (W.heap.size + 1) [.string { data := #[] }, .slice none 0 0, .int .i64 0, .slice none 0 0] w ∧ Box hi [.string nm', .slice pp' pn' pc', .int .i64 rt', .slice bp' bs'.length bc'] w ∧ hi < w.heap.size ∧ ListOwn 3 1 intC NoOwn lo d w pp' pn' pc' ps') → (Past W.heap.size W w' ∧ Box (W.heap.size + 1) [.string { data := #[] }, .slice none 0 0, .int .i64 0, .slice none 0 0] w' ∧ Box hi [.string nm', .slice pp' pn' pc', .int .i64 rt', .slice bp' bs'.length bc'] w' ∧ hi < w'.heap.size ∧ ListOwn 3 1 intC NoOwn lo d w' pp' pn' pc' ps')) := Lib.hid (by
    rintro w w' row hrow hg ⟨i1, i3, i4, i5, i6⟩
    have hs := hg.size
    exact ⟨i1.kept hg (fun g e => by have := (hrow g e).1; omega), i3.kept hg (fun e => by have := (hrow _ e.symm).1; omega), i4.kept hg (fun e => by have := (hrow _ e.symm).2; omega), by omega,
      i6.stay local_NoOwn (grown_stay hg (by omega) (fun g e => by have := (hrow g e).1; omega))⟩)
  have HI0 := Lib.hid (And.intro KK o6)
  have HDY := Lib.hid hdy
  have HBD := Lib.hid (o6.caps)
  clear KK o5 o6 P4 P5 Z4 Z5 G5 al5 ho1 ho2 hp5 hdy g0 g3 h hz s5 z4 eD
  obtain ⟨kb1, kb2⟩ := HBD.out
  go_loopw [18] (fun t wr => ∃ i : Nat, i ≤ bs'.length ∧ t = .int .i64 i ∧ (Past W.heap.size W wr ∧ Box (W.heap.size + 1) [.string { data := #[] }, .slice none 0 0, .int .i64 0, .slice none 0 0] wr ∧ Box hi [.string nm', .slice pp' pn' pc', .int .i64 rt', .slice bp' bs'.length bc'] wr ∧ hi < wr.heap.size ∧ ListOwn 3 1 intC NoOwn lo d wr pp' pn' pc' ps') ∧ ListOwn 47 1 blkC BlkOwn d hi wr bp' bs'.length bc' (cur (fT a b) bs' i 0)) (fun t _ => bs'.length - (intOf t).toNat)
  case atStart => exact ⟨0, Nat.zero_le _, rfl, HI0.out.1, by rw [cur_0]; exact HI0.out.2⟩
  case round =>
    obtain ⟨i, hib, rfl, hKK, hO⟩ := hrel
    have g3 := hKK.2.2.1.get 3 _ rfl
    by_cases hlt : i < bs'.length
    · have hws := hKK.2.2.2.1
      have hrows := cur_rows (f := fT a b) (fun _ => rfl) (hO.lies (m := 1) (by decide) (fun _ => rfl) (fun _ _ _ _ hb hq => BlkOwn.lies hb hq) (Nat.le_of_lt hws))
      obtain ⟨ad, rfl, had, hc⟩ := blk_row hrows i hlt
      have hcd := hrows.2.2.2.2 bs'[i] (List.getElem_mem hlt)
      have d1 : bs'[i].n = bs'[i].code.length := hcd.1
      have d2 : bs'[i].n ≤ bs'[i].k := hcd.2.1
      have d3 : bs'[i].k ≤ maxLen := hcd.2.2.1
      rw [d1] at hc d2
      unfold maxLen at d3
      have HKK := Lib.hid hKK
      have HO := Lib.hid hO
      clear hKK hO hrows hcd d1
      go_wp2_with fail
      clear g3 hc
      go_loopw [28] (fun t wr => ∃ k : Nat, k ≤ bs'[i].code.length ∧ t = .int .i64 k ∧ (Past W.heap.size W wr ∧ Box (W.heap.size + 1) [.string { data := #[] }, .slice none 0 0, .int .i64 0, .slice none 0 0] wr ∧ Box hi [.string nm', .slice pp' pn' pc', .int .i64 rt', .slice (some ad) bs'.length bc'] wr ∧ hi < wr.heap.size ∧ ListOwn 3 1 intC NoOwn lo d wr pp' pn' pc' ps') ∧ ListOwn 47 1 blkC BlkOwn d hi wr (some ad) bs'.length bc' (cur (fT a b) bs' i k)) (fun t _ => bs'[i].code.length - (intOf t).toNat)
      case atStart => exact ⟨0, Nat.zero_le _, rfl, HKK.out, HO.out⟩
      case round =>
        obtain ⟨k, hk, rfl, hKK, hO⟩ := hrel
        have g3 := hKK.2.2.1.get 3 _ rfl
        have hws := hKK.2.2.2.1
        have hrows := cur_rows (f := fT a b) (fun _ => rfl) (hO.lies (m := 1) (by decide) (fun _ => rfl) (fun _ _ _ _ hb hq => BlkOwn.lies hb hq) (Nat.le_of_lt hws))
        obtain ⟨ad2, ead, had2, hc⟩ := blk_row hrows i hlt
        injection ead with ead
        subst ead
        have hcd := hrows.2.2.2.2 bs'[i] (List.getElem_mem hlt)
        have d1 : bs'[i].n = bs'[i].code.length := hcd.1
        rw [d1] at hc
        by_cases hkl : k < bs'[i].code.length
        · obtain ⟨u, hu, hu2, hins⟩ := li_row hcd k hkl
          obtain ⟨y0, y1, y2, y3, y4, y5, y6⟩ := hins
          obtain ⟨a2, c2, hla, hlc, hIO, hup⟩ := cur_place (f := fT a b) (fun _ => rfl) hlt hkl hO
          obtain ⟨x, ex⟩ : ∃ x, bs'[i].code[k] = x := ⟨_, rfl⟩
          rw [ex] at hIO hup y6
          obtain ⟨⟨op, rg, ty, nn, fl, ap, al, ac, tp, tl, tc, args⟩, ts⟩ := x
          simp only at hIO y6
          obtain ⟨hA, hT⟩ := hIO
          have h1 : tl = ts.length := hT.1
          simp only at hA hT
          have h2 := hT.2.1
          have h3 := hT.2.2.1
          rw [h1] at h2 h3 y6
          rw [hu] at hc
          have hcap := hT.caps
          obtain ⟨hcap1, hcap2⟩ := hcap
          have HKK := Lib.hid hKK
          have HROW := Lib.hid h2
          have HCLT := Lib.hid h2.lt
          have HA := Lib.hid (And.intro hA hT)
          have HUP := Lib.hid hup
          have H3 := Lib.hid h3
          clear hKK hrows hcd h2 hA hT hup h1 h3 hO hu y0 y1 y2 y3 y4 y5 d1 ex
          go_wp2_with fail
          clear g3 y6 hc
          generalize wr = wo at *
          go_loopw [43] (fun t wi => ∃ j : Nat, j ≤ ts.length ∧ t = .int .i64 j ∧ wo.grownBy wi (Value.slice tp ts.length tc).ownBlock ∧ wi.ownsRow a2 3 1 (.slice tp ts.length tc) ts.length ((tlv a b ts j).flatMap intC)) (fun t _ => ts.length - (intOf t).toNat)
          case atStart => exact ⟨0, Nat.zero_le _, rfl, World.grownBy.refl _ _, by rw [tlv_0]; exact HROW.out⟩
          case round =>
            obtain ⟨j, hj, rfl, hg, ho⟩ := hrel
            by_cases hjl : j < ts.length
            · obtain ⟨g, rfl⟩ : ∃ g, tp = some ⟨g, 0, none⟩ := by
                rcases id ho.2 with ⟨_, h0⟩ | ⟨g, cap, cu, e, _⟩
                · omega
                · injection e with e1 e2 e3; exact ⟨g, e1⟩
              have c1 := ho.cellAt j (by omega)
              rw [intC_map, List.getElem?_map, List.getElem?_eq_getElem (by rw [tlv_len]; exact hjl), tlv_get a b ts j hjl] at c1
              have f1 := ho.frozenAt j
              have hst := ho.stored j (.int .i64 (mvI a b ts[j]))
              have e1 : ((tlv a b ts j).flatMap intC).set j (.int .i64 (mvI a b ts[j])) = (tlv a b ts (j + 1)).flatMap intC := by rw [intC_map, intC_map, List.map_set.symm, tlv_succ a b ts j hjl]
              rw [e1] at hst
              have HST := Lib.hid (And.intro hst.1 (hg.trans hst.2))
              obtain ⟨t, et⟩ : ∃ t, ts[j] = t := ⟨_, rfl⟩
              rw [et] at HST
              simp only [et] at c1
              have c2' : wr.cell? ⟨g, j, none⟩ = some (.int .i64 t) := c1
              have cM := Moved_any t a b
              clear ho hst hg c1 et e1
              go_wp2_with ((with_reducible refine (cM _).mono ?_); rintro e w' ⟨rfl, rfl⟩)
              exact ⟨⟨j + 1, by omega, by go_num, HST.out.2, HST.out.1⟩, by simp [intOf]; omega⟩
            · obtain rfl : j = ts.length := by omega
              rw [tlv_all] at ho
              have hKK := HK.out wo wr _ (fun g e => ⟨by have := (HCLT.out g e).1; omega, by have := H3.out g e; omega⟩) hg HKK.out
              have HH := Lib.hid (And.intro hg (And.intro ho hKK))
              clear hg ho hKK
              go_wp2_with fail
              refine ⟨⟨k + 1, by omega, by go_num, HH.out.2.2, HUP.out wr (fun m h1 h2 h3 => HH.out.1.block m (by have := HKK.out.2.2.2.1; omega) (fun e => by have h5 := (HCLT.out m e.symm).1; have h6 := H3.out m e.symm; omega)) ?_⟩, by simp [intOf]; omega⟩
              obtain ⟨t1, t2, t3, t4⟩ := HA.out.1
              obtain ⟨r1, r2, r3, r4⟩ := HA.out.2
              refine ⟨⟨t1, t2.kept HH.out.1 (rows_apart t2 HROW.out (by decide)), t3, spread_NoOwn t4.le _⟩, ⟨?_, ?_, ?_, spread_NoOwn r4.le _⟩⟩
              · show tl = (ts.map (mvI a b)).length
                rw [List.length_map]; exact r1
              · show wr.ownsRow a2 3 1 (.slice tp tl tc) tl ((ts.map (mvI a b)).flatMap intC)
                rw [r1]; exact HH.out.2.1
              · exact r3
        · obtain rfl : k = bs'[i].code.length := by omega
          have HKK := Lib.hid hKK
          have HO := Lib.hid hO
          clear hKK hO hrows hcd hc g3
          go_wp2_with fail
          refine ⟨⟨i + 1, by omega, by go_num, HKK.out, by rw [cur_next _ _ i hlt]; exact HO.out⟩, by simp [intOf]; omega⟩
    · obtain rfl : i = bs'.length := by omega
      rw [cur_all] at hO
      obtain ⟨haL, hbL⟩ := HAB.out
      obtain ⟨bs2, e2⟩ : ∃ bs2, (bs'.map fun c => ({ c with code := c.code.map (fT a b) } : LB)) = bs2 := ⟨_, rfl⟩
      rw [e2] at hO
      have hl2 : bs2.length = bs'.length := by rw [← e2, List.length_map]
      obtain ⟨gb, rfl⟩ := hO.some_row (by omega)
      have ra0 := own_range (f := blkC) (m := 1) (fun _ => rfl) hO.2.1 a (by omega) 0 _ rfl
      have rb0 := own_range (f := blkC) (m := 1) (fun _ => rfl) hO.2.1 b (by omega) 0 _ rfl
      have ta := (own_there (f := blkC) (m := 1) (fun _ => rfl) hO.2.1 a (by omega) 0 (by decide)).2
      have tb := (own_there (f := blkC) (m := 1) (fun _ => rfl) hO.2.1 b (by omega) 0 (by decide)).2
      simp only [Nat.mul_one, Nat.add_zero] at ra0 rb0 ta tb
      obtain ⟨xa, exa⟩ : ∃ xa, bs2[a]? = some xa := ⟨_, List.getElem?_eq_getElem (by omega)⟩
      obtain ⟨xb, exb⟩ : ∃ xb, bs2[b]? = some xb := ⟨_, List.getElem?_eq_getElem (by omega)⟩
      have ra : wr.cell? ⟨gb, a, none⟩ = some (.slice xa.p xa.n xa.k) := by
        rw [List.getElem?_eq_getElem (by omega)] at exa
        rw [← Option.some.inj exa]; exact ra0
      have rb : wr.cell? ⟨gb, b, none⟩ = some (.slice xb.p xb.n xb.k) := by
        rw [List.getElem?_eq_getElem (by omega)] at exb
        rw [← Option.some.inj exb]; exact rb0
      have hgl := (hO.2.1.lt gb rfl)
      have hgh := hO.2.2.1 gb rfl
      have st1 := hO.2.1.stored a (.slice xb.p xb.n xb.k)
      have st2 := st1.1.stored b (.slice xa.p xa.n xa.k)
      have rb2 : (wr.setCell ⟨gb, a, none⟩ (.slice xb.p xb.n xb.k)).cell? ⟨gb, b, none⟩ = some (.slice xb.p xb.n xb.k) := by
        rw [st1.1.cellAt b (by omega), blkC_map, List.getElem?_set, List.length_map]
        by_cases e : a = b
        · rw [if_pos e, if_pos (by omega)]
        · rw [if_neg e, List.getElem?_map, exb]; rfl
      have tb2 := st1.1.frozenAt b
      have e3 : (((bs2.flatMap blkC).set a (.slice xb.p xb.n xb.k)).set b (.slice xa.p xa.n xa.k)) = ((bs2.set a xb).set b xa).flatMap blkC := by
        rw [blkC_map, blkC_map, List.map_set, List.map_set]
      rw [e3] at st2
      have HX := Lib.hid (And.intro hKK (And.intro hO (And.intro e2 (And.intro hl2 (And.intro exa exb)))))
      have HS := Lib.hid (And.intro st2.1 (st1.2.trans st2.2))
      clear hKK hO e2 hl2 exa exb ra0 rb0 st1 st2 e3
      -- REGION
      go_wp2_with fail
      refine wp_region_noPanic ?_
      refine wp_region_held_drew (S := fun w' => w'.cell? ⟨hi, 3, none⟩ = some (.slice (some ⟨gb, 0, none⟩) bs'.length bc')) (by kernel_rfl) (by rw [World.cell?_drew]; exact g3) (fun hHeld => ?_)
      refine wpAnyH_take (i := 0) (v := ?_) rfl (by kernel_rfl) (by kernel_rfl) (by kernel_rfl) (fun _ _ _ h => h) (Or.inl ⟨by rfl, ?_⟩) (by assumption) ?_
      rotate_left
      · intro w hSw
        try dsimp only at hSw
        go_simp
        try (with_reducible rfl)
      try simp only [Act.put, List.setIfInBounds_toArray, List.set_cons_zero, List.set_cons_succ]
      refine wpAnyH_take (i := 1) (v := ?_) rfl (by kernel_rfl) (by kernel_rfl) (by kernel_rfl) (fun _ _ _ h => h) (Or.inl ⟨by rfl, ?_⟩) (by assumption) ?_
      rotate_left
      · intro w hSw
        try dsimp only at hSw
        go_simp
        try (with_reducible rfl)
      try simp only [Act.put, List.setIfInBounds_toArray, List.set_cons_zero, List.set_cons_succ]
      refine wpAnyH_take (i := 2) (v := ?_) rfl (by kernel_rfl) (by kernel_rfl) (by kernel_rfl) (fun _ _ _ h => h) (Or.inl ⟨by rfl, ?_⟩) (by assumption) ?_
      rotate_left
      · intro w hSw
        try dsimp only at hSw
        go_simp
        try (with_reducible rfl)
      try simp only [Act.put, List.setIfInBounds_toArray, List.set_cons_zero, List.set_cons_succ]
      refine wpAnyH_take (i := 3) (v := ?_) rfl (by kernel_rfl) (by kernel_rfl) (by kernel_rfl) (fun _ _ _ h => h) (Or.inl ⟨by rfl, ?_⟩) (by assumption) ?_
      rotate_left
      · intro w hSw
        try dsimp only at hSw
        go_simp
        try (with_reducible rfl)
      try simp only [Act.put, List.setIfInBounds_toArray, List.set_cons_zero, List.set_cons_succ]
      refine wpAnyH_take (i := 4) (v := ?_) rfl (by kernel_rfl) (by kernel_rfl) (by kernel_rfl) (fun _ _ _ h => h) (Or.inl ⟨by rfl, ?_⟩) (by assumption) ?_
      rotate_left
      · intro w hSw
        try dsimp only at hSw
        go_simp
        try (with_reducible rfl)
      try simp only [Act.put, List.setIfInBounds_toArray, List.set_cons_zero, List.set_cons_succ]
      refine wpAnyH_take (i := 5) (v := ?_) rfl (by kernel_rfl) (by kernel_rfl) (by kernel_rfl) (fun _ _ _ h => h) (Or.inl ⟨by rfl, ?_⟩) (by assumption) ?_
      rotate_left
      · intro w hSw
        try dsimp only at hSw
        go_simp
        try (with_reducible rfl)
      try simp only [Act.put, List.setIfInBounds_toArray, List.set_cons_zero, List.set_cons_succ]
      refine wpAnyH_take (i := 6) (v := ?_) rfl (by kernel_rfl) (by kernel_rfl) (by kernel_rfl) (fun _ _ _ h => h) (Or.inl ⟨by rfl, ?_⟩) (by assumption) ?_
      rotate_left
      · intro w hSw
        try dsimp only at hSw
        go_simp
        try (with_reducible rfl)
      try simp only [Act.put, List.setIfInBounds_toArray, List.set_cons_zero, List.set_cons_succ]
      refine wpAnyH_take (i := 7) (v := ?_) rfl (by kernel_rfl) (by kernel_rfl) (by kernel_rfl) (fun _ _ _ h => h) (Or.inl ⟨by rfl, ?_⟩) (by assumption) ?_
      rotate_left
      · intro w hSw
        try dsimp only at hSw
        go_simp
        try (with_reducible rfl)
      try simp only [Act.put, List.setIfInBounds_toArray, List.set_cons_zero, List.set_cons_succ]
      refine wpAnyH_take (i := 8) (v := ?_) rfl (by kernel_rfl) (by kernel_rfl) (by kernel_rfl) (fun _ _ _ h => h) (Or.inl ⟨by rfl, ?_⟩) (by assumption) ?_
      rotate_left
      · intro w hSw
        try dsimp only at hSw
        go_simp
        try (with_reducible rfl)
      try simp only [Act.put, List.setIfInBounds_toArray, List.set_cons_zero, List.set_cons_succ]
      refine wpAnyH_take (i := 9) (v := ?_) rfl (by kernel_rfl) (by kernel_rfl) (by kernel_rfl) (fun _ _ _ h => h) (Or.inl ⟨by rfl, ?_⟩) (by assumption) ?_
      rotate_left
      · intro w hSw
        try dsimp only at hSw
        go_simp
        try (with_reducible rfl)
      try simp only [Act.put, List.setIfInBounds_toArray, List.set_cons_zero, List.set_cons_succ]
      refine wpAnyH_take (i := 11) (v := ?_) rfl (by kernel_rfl) (by kernel_rfl) (by kernel_rfl) (fun _ _ _ h => h) (Or.inl ⟨by rfl, ?_⟩) (by assumption) ?_
      rotate_left
      · intro w hSw
        try dsimp only at hSw
        go_simp
        try (with_reducible rfl)
      try simp only [Act.put, List.setIfInBounds_toArray, List.set_cons_zero, List.set_cons_succ]
      refine wpAnyH_take (i := 12) (v := ?_) rfl (by kernel_rfl) (by kernel_rfl) (by kernel_rfl) (fun _ _ _ h => h) (Or.inl ⟨by rfl, ?_⟩) (by assumption) ?_
      rotate_left
      · intro w hSw
        try dsimp only at hSw
        go_simp
        try (with_reducible rfl)
      try simp only [Act.put, List.setIfInBounds_toArray, List.set_cons_zero, List.set_cons_succ]
      refine wpAnyH_take (i := 13) (v := ?_) rfl (by kernel_rfl) (by kernel_rfl) (by kernel_rfl) (fun _ _ _ h => h) (Or.inl ⟨by rfl, ?_⟩) (by assumption) ?_
      rotate_left
      · intro w hSw
        try dsimp only at hSw
        go_simp
        try (with_reducible rfl)
      try simp only [Act.put, List.setIfInBounds_toArray, List.set_cons_zero, List.set_cons_succ]
      refine wpAnyH_take (i := 14) (v := ?_) rfl (by kernel_rfl) (by kernel_rfl) (by kernel_rfl) (fun _ _ _ h => h) (Or.inl ⟨by rfl, ?_⟩) (by assumption) ?_
      rotate_left
      · intro w hSw
        try dsimp only at hSw
        go_simp
        try (with_reducible rfl)
      try simp only [Act.put, List.setIfInBounds_toArray, List.set_cons_zero, List.set_cons_succ]
      refine wpAnyH_ready (rs := [10, 15]) (by kernel_rfl) (by simp) ?_
      refine AllReadyH.cons rfl (fun K hK => ?_) ?_
      · go_simp
        refine hK.out _ _ ?_ (fun hHeld => ?_)
        · try dsimp only
          first | (with_reducible assumption) | (rw [World.cell?_drew]; with_reducible assumption) | (rw [World.cell?_setCell_far _ _ _ _ (by dsimp only; omega)]; with_reducible assumption) | (rw [World.cell?_setCell_far _ _ _ _ (by dsimp only; omega), World.cell?_setCell_far _ _ _ _ (by dsimp only; omega)]; with_reducible assumption) | (rw [World.cell?_drew, World.cell?_setCell_far _ _ _ _ (by dsimp only; omega)]; with_reducible assumption) | (rw [World.cell?_drew, World.cell?_setCell_far _ _ _ _ (by dsimp only; omega), World.cell?_setCell_far _ _ _ _ (by dsimp only; omega)]; with_reducible assumption)
        clear hK K
        try simp only [Act.put, List.setIfInBounds_toArray, List.set_cons_zero, List.set_cons_succ]
        refine wpAnyH_ready (rs := [15]) (by kernel_rfl) (by simp) ?_
        refine AllReadyH.cons rfl (fun K hK => ?_) ?_
        · go_simp
          refine hK.out _ _ ?_ (fun hHeld => ?_)
          · try dsimp only
            first | (with_reducible assumption) | (rw [World.cell?_drew]; with_reducible assumption) | (rw [World.cell?_setCell_far _ _ _ _ (by dsimp only; omega)]; with_reducible assumption) | (rw [World.cell?_setCell_far _ _ _ _ (by dsimp only; omega), World.cell?_setCell_far _ _ _ _ (by dsimp only; omega)]; with_reducible assumption) | (rw [World.cell?_drew, World.cell?_setCell_far _ _ _ _ (by dsimp only; omega)]; with_reducible assumption) | (rw [World.cell?_drew, World.cell?_setCell_far _ _ _ _ (by dsimp only; omega), World.cell?_setCell_far _ _ _ _ (by dsimp only; omega)]; with_reducible assumption)
          clear hK K
          try simp only [Act.put, List.setIfInBounds_toArray, List.set_cons_zero, List.set_cons_succ]
          refine wpAnyH_ready (rs := [16]) (by kernel_rfl) (by simp) ?_
          refine AllReadyH.cons rfl (fun K hK => ?_) ?_
          · go_simp
            refine hK.out _ _ ?_ (fun hHeld => ?_)
            · try dsimp only
              first | (with_reducible assumption) | (rw [World.cell?_drew]; with_reducible assumption) | (rw [World.cell?_setCell_far _ _ _ _ (by dsimp only; omega)]; with_reducible assumption) | (rw [World.cell?_setCell_far _ _ _ _ (by dsimp only; omega), World.cell?_setCell_far _ _ _ _ (by dsimp only; omega)]; with_reducible assumption) | (rw [World.cell?_drew, World.cell?_setCell_far _ _ _ _ (by dsimp only; omega)]; with_reducible assumption) | (rw [World.cell?_drew, World.cell?_setCell_far _ _ _ _ (by dsimp only; omega), World.cell?_setCell_far _ _ _ _ (by dsimp only; omega)]; with_reducible assumption)
            clear hK K
            try simp only [Act.put, List.setIfInBounds_toArray, List.set_cons_zero, List.set_cons_succ]
            refine wpAnyH_ready (rs := [17]) (by kernel_rfl) (by simp) ?_
            refine AllReadyH.cons rfl (fun K hK => ?_) ?_
            · go_simp
              refine hK.out _ _ ?_ (fun hHeld => ?_)
              · try dsimp only
                first | (with_reducible assumption) | (rw [World.cell?_drew]; with_reducible assumption) | (rw [World.cell?_setCell_far _ _ _ _ (by dsimp only; omega)]; with_reducible assumption) | (rw [World.cell?_setCell_far _ _ _ _ (by dsimp only; omega), World.cell?_setCell_far _ _ _ _ (by dsimp only; omega)]; with_reducible assumption) | (rw [World.cell?_drew, World.cell?_setCell_far _ _ _ _ (by dsimp only; omega)]; with_reducible assumption) | (rw [World.cell?_drew, World.cell?_setCell_far _ _ _ _ (by dsimp only; omega), World.cell?_setCell_far _ _ _ _ (by dsimp only; omega)]; with_reducible assumption)
              clear hK K
              try simp only [Act.put, List.setIfInBounds_toArray, List.set_cons_zero, List.set_cons_succ]
              refine wpAnyH_ready (rs := [18]) (by kernel_rfl) (by simp) ?_
              refine AllReadyH.cons rfl (fun K hK => ?_) ?_
              · go_simp
                refine hK.out _ _ ?_ (fun hHeld => ?_)
                · try dsimp only
                  first | (with_reducible assumption) | (rw [World.cell?_drew]; with_reducible assumption) | (rw [World.cell?_setCell_far _ _ _ _ (by dsimp only; omega)]; with_reducible assumption) | (rw [World.cell?_setCell_far _ _ _ _ (by dsimp only; omega), World.cell?_setCell_far _ _ _ _ (by dsimp only; omega)]; with_reducible assumption) | (rw [World.cell?_drew, World.cell?_setCell_far _ _ _ _ (by dsimp only; omega)]; with_reducible assumption) | (rw [World.cell?_drew, World.cell?_setCell_far _ _ _ _ (by dsimp only; omega), World.cell?_setCell_far _ _ _ _ (by dsimp only; omega)]; with_reducible assumption)
                clear hK K
                try simp only [Act.put, List.setIfInBounds_toArray, List.set_cons_zero, List.set_cons_succ]
                refine wpAnyH_ready (rs := [19]) (by kernel_rfl) (by simp) ?_
                refine AllReadyH.cons rfl (fun K hK => ?_) ?_
                · go_simp
                  refine hK.out _ _ ?_ (fun hHeld => ?_)
                  · try dsimp only
                    first | (with_reducible assumption) | (rw [World.cell?_drew]; with_reducible assumption) | (rw [World.cell?_setCell_far _ _ _ _ (by dsimp only; omega)]; with_reducible assumption) | (rw [World.cell?_setCell_far _ _ _ _ (by dsimp only; omega), World.cell?_setCell_far _ _ _ _ (by dsimp only; omega)]; with_reducible assumption) | (rw [World.cell?_drew, World.cell?_setCell_far _ _ _ _ (by dsimp only; omega)]; with_reducible assumption) | (rw [World.cell?_drew, World.cell?_setCell_far _ _ _ _ (by dsimp only; omega), World.cell?_setCell_far _ _ _ _ (by dsimp only; omega)]; with_reducible assumption)
                  clear hK K
                  try simp only [Act.put, List.setIfInBounds_toArray, List.set_cons_zero, List.set_cons_succ]
                  refine wpAnyH_done (by kernel_rfl) ?_ _
                  refine NoPanic.normal ?_
                  have hKK8 := HK.out wr _ (some gb) (fun g e => by injection e with e; subst e; exact ⟨hgl.1, hgh⟩) HS.out.2 HX.out.1
                  obtain ⟨w8, e8⟩ : ∃ w8, ((wr.setCell ⟨gb, a, none⟩ (.slice xb.p xb.n xb.k)).setCell ⟨gb, b, none⟩ (.slice xa.p xa.n xa.k)).drew = w8 := ⟨_, rfl⟩
                  have P8 : Past W.heap.size W w8 := by rw [← e8]; exact hKK8.1.drew
                  have Z8 : Box (W.heap.size + 1) [.string { data := #[] }, .slice none 0 0, .int .i64 0, .slice none 0 0] w8 := by rw [← e8]; exact hKK8.2.1.drew
                  have G8 : Box hi [.string nm', .slice pp' pn' pc', .int .i64 rt', .slice (some ⟨gb, 0, none⟩) bs'.length bc'] w8 := by rw [← e8]; exact hKK8.2.2.1.drew
                  have L8 : ListOwn 3 1 intC NoOwn lo d w8 pp' pn' pc' ps' := by rw [← e8]; exact hKK8.2.2.2.2.stay local_NoOwn (fun k _ _ => rfl)
                  have R8 : w8.ownsRow d 47 1 (.slice (some ⟨gb, 0, none⟩) bs'.length bc') bs'.length (((bs2.set a xb).set b xa).flatMap blkC) := by rw [← e8]; exact HS.out.1.drew
                  have h8 : ∀ k, k < wr.heap.size → k ≠ gb → w8.heap[k]? = wr.heap[k]? := fun k h1 h2 => by rw [← e8]; exact HS.out.2.block k h1 (fun e => h2 (by injection e))
                  have s8 : w8.heap.size = wr.heap.size := by rw [← e8, World.size_drew, setCell_size, setCell_size]
                  have hws8 : hi < wr.heap.size := HX.out.1.2.2.2.1
                  have H8 := Lib.hid (And.intro P8 (And.intro L8 (And.intro R8 (And.intro h8 s8))))
                  clear hKK8 P8 L8 R8 h8 hHeld ra rb rb2 tb2 ta tb g3
                  simp only [e8]
                  clear e8 s8
                  have x0 := G8.get 0 _ rfl
                  have x1 := G8.get 1 _ rfl
                  have x2 := G8.get 2 _ rfl
                  have x3 := G8.get 3 _ rfl
                  have r0 := Z8.get 0 _ rfl
                  have r1 := Z8.get 1 _ rfl
                  have r2 := Z8.get 2 _ rfl
                  have r3 := Z8.get 3 _ rfl
                  have rf := Z8.2.1
                  go_wp2_with fail
                  have Z9 := (((Z8.set 0 (.string nm')).set 1 (.slice pp' pn' pc')).set 2 (.int .i64 rt')).set 3 (.slice (some ⟨gb, 0, none⟩) bs'.length bc')
                  have f0 := Z9.get 0 _ rfl
                  have f1 := Z9.get 1 _ rfl
                  have f2 := Z9.get 2 _ rfl
                  have f3 := Z9.get 3 _ rfl
                  refine bodyPost_ret (v := .agg #[.string nm', .slice pp' pn' pc', .int .i64 rt', .slice (some ⟨gb, 0, none⟩) bs'.length bc']) (by simp [results, Try.results28, go_sem, f0, f1, f2, f3]) rfl ?_
                  obtain ⟨w9, e9⟩ : ∃ w9, ((((w8.setCell ⟨W.heap.size + 1, 0, none⟩ (.string nm')).setCell ⟨W.heap.size + 1, 1, none⟩ (.slice pp' pn' pc')).setCell ⟨W.heap.size + 1, 2, none⟩ (.int .i64 rt')).setCell ⟨W.heap.size + 1, 3, none⟩ (.slice (some ⟨gb, 0, none⟩) bs'.length bc')) = w9 := ⟨_, rfl⟩
                  have st9 : ∀ k, k ≠ W.heap.size + 1 → w9.heap[k]? = w8.heap[k]? := fun k h1 => by rw [← e9]; exact (Below.heap_setCell _ _ _ _ (by dsimp only; omega)).trans ((Below.heap_setCell _ _ _ _ (by dsimp only; omega)).trans ((Below.heap_setCell _ _ _ _ (by dsimp only; omega)).trans (Below.heap_setCell _ _ _ _ (by dsimp only; omega))))
                  have l9 : w9.heap.size = w8.heap.size := by rw [← e9]; simp [World.setCell]
                  have P9 : Past W.heap.size W w9 := by rw [← e9]; exact (((H8.out.1.set (a := ⟨W.heap.size + 1, 0, none⟩) (by dsimp only; omega) (.string nm')).set (a := ⟨W.heap.size + 1, 1, none⟩) (by dsimp only; omega) (.slice pp' pn' pc')).set (a := ⟨W.heap.size + 1, 2, none⟩) (by dsimp only; omega) (.int .i64 rt')).set (a := ⟨W.heap.size + 1, 3, none⟩) (by dsimp only; omega) (.slice (some ⟨gb, 0, none⟩) bs'.length bc')
                  have R9 : w9.ownsRow d 47 1 (.slice (some ⟨gb, 0, none⟩) bs'.length bc') bs'.length (((bs2.set a xb).set b xa).flatMap blkC) := by rw [← e9]; exact ownsRow_set (ownsRow_set (ownsRow_set (ownsRow_set H8.out.2.2.1 (by dsimp only; omega) _) (by dsimp only; omega) _) (by dsimp only; omega) _) (by dsimp only; omega) _
                  rw [e9]
                  have z8 := H8.out.2.2.2.2
                  refine ⟨⟨nm', pp', pn', pc', ps', rt', some ⟨gb, 0, none⟩, bs'.length, bc', (bs2.set a xb).set b xa⟩, rfl, ?_, P9, ?_, ?_⟩
                  · exact swap_perm rfl HDY.out HX.out.2.2.1 HX.out.2.2.2.2.1 HX.out.2.2.2.2.2
                  · exact ints_in (H8.out.2.1.stay local_NoOwn (fun k h1 h2 => st9 k (by omega))) (by omega)
                  · refine ⟨by rw [List.length_set, List.length_set]; exact HX.out.2.2.2.1.symm, kb1, by unfold maxLen; exact kb2, fun j u hu => ⟨⟨gb, 0, none⟩, rfl, by show gb < _; omega, R9.cells rfl j u hu⟩, ?_⟩
                    have hel := own_el (E := BlkIn) (w' := w9) local_Blk (fun _ _ _ _ hb hq => BlkOwn.lies hb hq) HX.out.2.1 (by omega) (fun k h1 h2 h3 => (st9 k (by omega)).trans (H8.out.2.2.2.1 k (by omega) h3))
                    intro x hx
                    rcases List.mem_or_eq_of_mem_set hx with hx | rfl
                    · rcases List.mem_or_eq_of_mem_set hx with hx | rfl
                      · exact hel x hx
                      · exact hel _ (List.mem_of_getElem? HX.out.2.2.2.2.2)
                    · exact hel _ (List.mem_of_getElem? HX.out.2.2.2.2.1)
                exact AllReadyH.nil
              exact AllReadyH.nil
            exact AllReadyH.nil
          exact AllReadyH.nil
        exact AllReadyH.nil
      refine AllReadyH.cons rfl (fun K hK => ?_) ?_
      · go_simp
        refine hK.out _ _ ?_ (fun hHeld => ?_)
        · try dsimp only
          first | (with_reducible assumption) | (rw [World.cell?_drew]; with_reducible assumption) | (rw [World.cell?_setCell_far _ _ _ _ (by dsimp only; omega)]; with_reducible assumption) | (rw [World.cell?_setCell_far _ _ _ _ (by dsimp only; omega), World.cell?_setCell_far _ _ _ _ (by dsimp only; omega)]; with_reducible assumption) | (rw [World.cell?_drew, World.cell?_setCell_far _ _ _ _ (by dsimp only; omega)]; with_reducible assumption) | (rw [World.cell?_drew, World.cell?_setCell_far _ _ _ _ (by dsimp only; omega), World.cell?_setCell_far _ _ _ _ (by dsimp only; omega)]; with_reducible assumption)
        clear hK K
        try simp only [Act.put, List.setIfInBounds_toArray, List.set_cons_zero, List.set_cons_succ]
        refine wpAnyH_ready (rs := [10]) (by kernel_rfl) (by simp) ?_
        refine AllReadyH.cons rfl (fun K hK => ?_) ?_
        · go_simp
          refine hK.out _ _ ?_ (fun hHeld => ?_)
          · try dsimp only
            first | (with_reducible assumption) | (rw [World.cell?_drew]; with_reducible assumption) | (rw [World.cell?_setCell_far _ _ _ _ (by dsimp only; omega)]; with_reducible assumption) | (rw [World.cell?_setCell_far _ _ _ _ (by dsimp only; omega), World.cell?_setCell_far _ _ _ _ (by dsimp only; omega)]; with_reducible assumption) | (rw [World.cell?_drew, World.cell?_setCell_far _ _ _ _ (by dsimp only; omega)]; with_reducible assumption) | (rw [World.cell?_drew, World.cell?_setCell_far _ _ _ _ (by dsimp only; omega), World.cell?_setCell_far _ _ _ _ (by dsimp only; omega)]; with_reducible assumption)
          clear hK K
          try simp only [Act.put, List.setIfInBounds_toArray, List.set_cons_zero, List.set_cons_succ]
          refine wpAnyH_ready (rs := [16]) (by kernel_rfl) (by simp) ?_
          refine AllReadyH.cons rfl (fun K hK => ?_) ?_
          · go_simp
            refine hK.out _ _ ?_ (fun hHeld => ?_)
            · try dsimp only
              first | (with_reducible assumption) | (rw [World.cell?_drew]; with_reducible assumption) | (rw [World.cell?_setCell_far _ _ _ _ (by dsimp only; omega)]; with_reducible assumption) | (rw [World.cell?_setCell_far _ _ _ _ (by dsimp only; omega), World.cell?_setCell_far _ _ _ _ (by dsimp only; omega)]; with_reducible assumption) | (rw [World.cell?_drew, World.cell?_setCell_far _ _ _ _ (by dsimp only; omega)]; with_reducible assumption) | (rw [World.cell?_drew, World.cell?_setCell_far _ _ _ _ (by dsimp only; omega), World.cell?_setCell_far _ _ _ _ (by dsimp only; omega)]; with_reducible assumption)
            clear hK K
            try simp only [Act.put, List.setIfInBounds_toArray, List.set_cons_zero, List.set_cons_succ]
            refine wpAnyH_ready (rs := [17]) (by kernel_rfl) (by simp) ?_
            refine AllReadyH.cons rfl (fun K hK => ?_) ?_
            · go_simp
              refine hK.out _ _ ?_ (fun hHeld => ?_)
              · try dsimp only
                first | (with_reducible assumption) | (rw [World.cell?_drew]; with_reducible assumption) | (rw [World.cell?_setCell_far _ _ _ _ (by dsimp only; omega)]; with_reducible assumption) | (rw [World.cell?_setCell_far _ _ _ _ (by dsimp only; omega), World.cell?_setCell_far _ _ _ _ (by dsimp only; omega)]; with_reducible assumption) | (rw [World.cell?_drew, World.cell?_setCell_far _ _ _ _ (by dsimp only; omega)]; with_reducible assumption) | (rw [World.cell?_drew, World.cell?_setCell_far _ _ _ _ (by dsimp only; omega), World.cell?_setCell_far _ _ _ _ (by dsimp only; omega)]; with_reducible assumption)
              clear hK K
              try simp only [Act.put, List.setIfInBounds_toArray, List.set_cons_zero, List.set_cons_succ]
              refine wpAnyH_ready (rs := [18]) (by kernel_rfl) (by simp) ?_
              refine AllReadyH.cons rfl (fun K hK => ?_) ?_
              · go_simp
                refine hK.out _ _ ?_ (fun hHeld => ?_)
                · try dsimp only
                  first | (with_reducible assumption) | (rw [World.cell?_drew]; with_reducible assumption) | (rw [World.cell?_setCell_far _ _ _ _ (by dsimp only; omega)]; with_reducible assumption) | (rw [World.cell?_setCell_far _ _ _ _ (by dsimp only; omega), World.cell?_setCell_far _ _ _ _ (by dsimp only; omega)]; with_reducible assumption) | (rw [World.cell?_drew, World.cell?_setCell_far _ _ _ _ (by dsimp only; omega)]; with_reducible assumption) | (rw [World.cell?_drew, World.cell?_setCell_far _ _ _ _ (by dsimp only; omega), World.cell?_setCell_far _ _ _ _ (by dsimp only; omega)]; with_reducible assumption)
                clear hK K
                try simp only [Act.put, List.setIfInBounds_toArray, List.set_cons_zero, List.set_cons_succ]
                refine wpAnyH_ready (rs := [19]) (by kernel_rfl) (by simp) ?_
                refine AllReadyH.cons rfl (fun K hK => ?_) ?_
                · go_simp
                  refine hK.out _ _ ?_ (fun hHeld => ?_)
                  · try dsimp only
                    first | (with_reducible assumption) | (rw [World.cell?_drew]; with_reducible assumption) | (rw [World.cell?_setCell_far _ _ _ _ (by dsimp only; omega)]; with_reducible assumption) | (rw [World.cell?_setCell_far _ _ _ _ (by dsimp only; omega), World.cell?_setCell_far _ _ _ _ (by dsimp only; omega)]; with_reducible assumption) | (rw [World.cell?_drew, World.cell?_setCell_far _ _ _ _ (by dsimp only; omega)]; with_reducible assumption) | (rw [World.cell?_drew, World.cell?_setCell_far _ _ _ _ (by dsimp only; omega), World.cell?_setCell_far _ _ _ _ (by dsimp only; omega)]; with_reducible assumption)
                  clear hK K
                  try simp only [Act.put, List.setIfInBounds_toArray, List.set_cons_zero, List.set_cons_succ]
                  refine wpAnyH_done (by kernel_rfl) ?_ _
                  refine NoPanic.normal ?_
                  have hKK8 := HK.out wr _ (some gb) (fun g e => by injection e with e; subst e; exact ⟨hgl.1, hgh⟩) HS.out.2 HX.out.1
                  obtain ⟨w8, e8⟩ : ∃ w8, ((wr.setCell ⟨gb, a, none⟩ (.slice xb.p xb.n xb.k)).setCell ⟨gb, b, none⟩ (.slice xa.p xa.n xa.k)).drew = w8 := ⟨_, rfl⟩
                  have P8 : Past W.heap.size W w8 := by rw [← e8]; exact hKK8.1.drew
                  have Z8 : Box (W.heap.size + 1) [.string { data := #[] }, .slice none 0 0, .int .i64 0, .slice none 0 0] w8 := by rw [← e8]; exact hKK8.2.1.drew
                  have G8 : Box hi [.string nm', .slice pp' pn' pc', .int .i64 rt', .slice (some ⟨gb, 0, none⟩) bs'.length bc'] w8 := by rw [← e8]; exact hKK8.2.2.1.drew
                  have L8 : ListOwn 3 1 intC NoOwn lo d w8 pp' pn' pc' ps' := by rw [← e8]; exact hKK8.2.2.2.2.stay local_NoOwn (fun k _ _ => rfl)
                  have R8 : w8.ownsRow d 47 1 (.slice (some ⟨gb, 0, none⟩) bs'.length bc') bs'.length (((bs2.set a xb).set b xa).flatMap blkC) := by rw [← e8]; exact HS.out.1.drew
                  have h8 : ∀ k, k < wr.heap.size → k ≠ gb → w8.heap[k]? = wr.heap[k]? := fun k h1 h2 => by rw [← e8]; exact HS.out.2.block k h1 (fun e => h2 (by injection e))
                  have s8 : w8.heap.size = wr.heap.size := by rw [← e8, World.size_drew, setCell_size, setCell_size]
                  have hws8 : hi < wr.heap.size := HX.out.1.2.2.2.1
                  have H8 := Lib.hid (And.intro P8 (And.intro L8 (And.intro R8 (And.intro h8 s8))))
                  clear hKK8 P8 L8 R8 h8 hHeld ra rb rb2 tb2 ta tb g3
                  simp only [e8]
                  clear e8 s8
                  have x0 := G8.get 0 _ rfl
                  have x1 := G8.get 1 _ rfl
                  have x2 := G8.get 2 _ rfl
                  have x3 := G8.get 3 _ rfl
                  have r0 := Z8.get 0 _ rfl
                  have r1 := Z8.get 1 _ rfl
                  have r2 := Z8.get 2 _ rfl
                  have r3 := Z8.get 3 _ rfl
                  have rf := Z8.2.1
                  go_wp2_with fail
                  have Z9 := (((Z8.set 0 (.string nm')).set 1 (.slice pp' pn' pc')).set 2 (.int .i64 rt')).set 3 (.slice (some ⟨gb, 0, none⟩) bs'.length bc')
                  have f0 := Z9.get 0 _ rfl
                  have f1 := Z9.get 1 _ rfl
                  have f2 := Z9.get 2 _ rfl
                  have f3 := Z9.get 3 _ rfl
                  refine bodyPost_ret (v := .agg #[.string nm', .slice pp' pn' pc', .int .i64 rt', .slice (some ⟨gb, 0, none⟩) bs'.length bc']) (by simp [results, Try.results28, go_sem, f0, f1, f2, f3]) rfl ?_
                  obtain ⟨w9, e9⟩ : ∃ w9, ((((w8.setCell ⟨W.heap.size + 1, 0, none⟩ (.string nm')).setCell ⟨W.heap.size + 1, 1, none⟩ (.slice pp' pn' pc')).setCell ⟨W.heap.size + 1, 2, none⟩ (.int .i64 rt')).setCell ⟨W.heap.size + 1, 3, none⟩ (.slice (some ⟨gb, 0, none⟩) bs'.length bc')) = w9 := ⟨_, rfl⟩
                  have st9 : ∀ k, k ≠ W.heap.size + 1 → w9.heap[k]? = w8.heap[k]? := fun k h1 => by rw [← e9]; exact (Below.heap_setCell _ _ _ _ (by dsimp only; omega)).trans ((Below.heap_setCell _ _ _ _ (by dsimp only; omega)).trans ((Below.heap_setCell _ _ _ _ (by dsimp only; omega)).trans (Below.heap_setCell _ _ _ _ (by dsimp only; omega))))
                  have l9 : w9.heap.size = w8.heap.size := by rw [← e9]; simp [World.setCell]
                  have P9 : Past W.heap.size W w9 := by rw [← e9]; exact (((H8.out.1.set (a := ⟨W.heap.size + 1, 0, none⟩) (by dsimp only; omega) (.string nm')).set (a := ⟨W.heap.size + 1, 1, none⟩) (by dsimp only; omega) (.slice pp' pn' pc')).set (a := ⟨W.heap.size + 1, 2, none⟩) (by dsimp only; omega) (.int .i64 rt')).set (a := ⟨W.heap.size + 1, 3, none⟩) (by dsimp only; omega) (.slice (some ⟨gb, 0, none⟩) bs'.length bc')
                  have R9 : w9.ownsRow d 47 1 (.slice (some ⟨gb, 0, none⟩) bs'.length bc') bs'.length (((bs2.set a xb).set b xa).flatMap blkC) := by rw [← e9]; exact ownsRow_set (ownsRow_set (ownsRow_set (ownsRow_set H8.out.2.2.1 (by dsimp only; omega) _) (by dsimp only; omega) _) (by dsimp only; omega) _) (by dsimp only; omega) _
                  rw [e9]
                  have z8 := H8.out.2.2.2.2
                  refine ⟨⟨nm', pp', pn', pc', ps', rt', some ⟨gb, 0, none⟩, bs'.length, bc', (bs2.set a xb).set b xa⟩, rfl, ?_, P9, ?_, ?_⟩
                  · exact swap_perm rfl HDY.out HX.out.2.2.1 HX.out.2.2.2.2.1 HX.out.2.2.2.2.2
                  · exact ints_in (H8.out.2.1.stay local_NoOwn (fun k h1 h2 => st9 k (by omega))) (by omega)
                  · refine ⟨by rw [List.length_set, List.length_set]; exact HX.out.2.2.2.1.symm, kb1, by unfold maxLen; exact kb2, fun j u hu => ⟨⟨gb, 0, none⟩, rfl, by show gb < _; omega, R9.cells rfl j u hu⟩, ?_⟩
                    have hel := own_el (E := BlkIn) (w' := w9) local_Blk (fun _ _ _ _ hb hq => BlkOwn.lies hb hq) HX.out.2.1 (by omega) (fun k h1 h2 h3 => (st9 k (by omega)).trans (H8.out.2.2.2.1 k (by omega) h3))
                    intro x hx
                    rcases List.mem_or_eq_of_mem_set hx with hx | rfl
                    · rcases List.mem_or_eq_of_mem_set hx with hx | rfl
                      · exact hel x hx
                      · exact hel _ (List.mem_of_getElem? HX.out.2.2.2.2.2)
                    · exact hel _ (List.mem_of_getElem? HX.out.2.2.2.2.1)
                exact AllReadyH.nil
              exact AllReadyH.nil
            exact AllReadyH.nil
          exact AllReadyH.nil
        exact AllReadyH.nil
      exact AllReadyH.nil
end Go.Proofs.Ytphdhndljgihmaa
