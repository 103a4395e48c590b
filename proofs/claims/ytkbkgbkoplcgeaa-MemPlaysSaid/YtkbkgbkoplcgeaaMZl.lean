/- The document's memory: Free, the walk. -/
import Derived.Test.YtkbkgbkoplcgeaaMZk
namespace Go.Proofs.Ytkbkgbkoplcgeaa
open Go.RowKit Go.Maps
set_option linter.unusedVariables false
set_option linter.unusedSimpArgs false

theorem frL_skip (k : Int) (m : Nat) (l : List By) (hm : m < l.length) (h : lostTo k l[m] = l[m]) : frL k m l = frL k (m + 1) l := by
  rw [← frL_step k m l hm, h]
  refine (List.ext_getElem? fun j => ?_)
  rw [List.getElem?_set, frL_at, frL_len]
  by_cases e : m = j
  · subst e
    rw [if_pos rfl, if_pos hm, if_neg (by omega), List.getElem?_eq_getElem hm]
  · rw [if_neg e]
theorem RmOwn.at' {a b : Nat} {w : World} {q : Option Addr} {d : Nat} {ys : List Rk} (h : RmOwn a b w q d ys) (i : Nat) (hi : i < ys.length) :
    ∃ g, q = some ⟨g, 0, none⟩ ∧ w.cell? ⟨g, i * 2 + 1, none⟩ = some (.slice ys[i].p ys[i].l.length ys[i].c) ∧ ys.length ≤ d := by
  obtain ⟨g, eg⟩ := ListOwn.some_row h (by omega)
  subst eg
  have hr := own_range rkC_len h.2.1 i hi
  exact ⟨g, rfl, hr 1 _ rfl, (ListOwn.caps h).1⟩
theorem dead_free {D : Dm} {k : Int} (h : dAlive D k = false) : dFree D k = D := by
  unfold dAlive at h
  unfold dFree
  cases e : atD D k with
  | none => rfl
  | some l => rw [e] at h; cases h
set_option maxHeartbeats 4000000 in
theorem rFree_any (W : World) (p : Option Addr) (c : Nat) (xs : List Rk) (D : Dm) (k : Int) (hl : xs.length ≤ 100000) (h : RmIn W p c xs D) :
    Calls Try.prog 52 #[.slice p xs.length c, .int .i64 k] W fun e w' => ∃ q d ys, e = .returned (.slice q ys.length d) ∧ RmNew W (dFree D k) q d ys w' := by
  have c1 := mCopy_new W p c xs D hl h
  have c2 : ∀ w, Below W.heap.size W w → Calls Try.prog 69 #[.slice p xs.length c, .int .i64 k] w fun e w' => e = .returned (.bool (dAlive D k)) ∧ w = w' := fun w hb => rAlive_any w p c xs D k (h.later hb)
  have b0 := bBl0
  have b1 := bB0
  cases hA : dAlive D k with
  | false =>
    simp only [hA] at c2
    rw [dead_free hA]
    clear h hA
    go_enter Try.func52, Try.ntmps52
    go_wp2_with (first
      | ((with_reducible refine c1.mono ?_); rintro e w1 ⟨q, d, ys, rfl, hs, hn⟩; have c2' := c2 w1 hn.past.2; have HN := Lib.hid hn; clear hs hn)
      | ((with_reducible refine c2'.mono ?_); rintro e w2 ⟨rfl, rfl⟩))
    go_ret
    exact ⟨q, d, ys, rfl, HN.out⟩
  | true =>
    simp only [hA] at c2
    obtain ⟨i, hi, rfl, hat, hal⟩ := alive_in h hA
    have HF : Hid ((((xs.map rkS).set i (false, [])).map (fun x => (x.1, x.2.map (lostTo (i : Int))))).map sD = dFree D (i : Int)) := Lib.hid (free_shows h.shows i hi hal)
    clear h hA hat hal
    go_enter Try.func52, Try.ntmps52
    go_wp2_with (first
      | ((with_reducible refine c1.mono ?_)
         rintro e w1 ⟨q, d, ys, rfl, hs, hn⟩
         have c2' := c2 w1 hn.past.2
         have hlen := rkS_len hs
         have hy : i < ys.length := by omega
         obtain ⟨g, eg, hg1, hg2, g0, g1, g2, hcl⟩ := hn.own.clear i hy
         subst eg
         obtain ⟨⟨A, p2, d2, l2⟩, eA⟩ : ∃ A, ys[i] = A := ⟨_, rfl⟩
         simp only [eA] at g0 g1
         have hcp := (ListOwn.caps hn.own)
         have hcp1 := hcp.1
         have hcp2 := hcp.2
         have ty : (i : Int) < (ys.length : Int) := by omega
         have HC := Lib.hid hcl
         have HS : Hid (ys.map rkS = xs.map rkS) := Lib.hid hs
         have HP : Hid (Past W.heap.size W w1) := Lib.hid hn.past
         have HG := Lib.hid (And.intro hg1 hg2)
         have HSM := Lib.hid hn.small
         clear hs hn hcl eA hcp hg1 hg2 hlen)
      | ((with_reducible refine c2'.mono ?_); rintro e w2 ⟨rfl, rfl⟩))
    obtain ⟨B1, eB1⟩ : ∃ B1, w1.heap.size = B1 := ⟨_, rfl⟩
    rw [eB1] at HC HG
    have HB0 : Hid (B1 ≤ w1.heap.size) := Lib.hid (Nat.le_of_eq eB1.symm)
    obtain ⟨w2, ew2⟩ : ∃ w2, w1.setCells g (i * 2) (rkC ⟨false, none, 0, []⟩) = w2 := ⟨_, rfl⟩
    have HO2 : Hid (RmOwn W.heap.size B1 w2 (some ⟨g, 0, none⟩) d (ys.set i ⟨false, none, 0, []⟩)) := Lib.hid (by rw [← ew2]; exact HC.out)
    have HP2 : Hid (Past W.heap.size W w2) := Lib.hid (by rw [← ew2]; exact Past.setCells HG.out.1 _ _ HP.out)
    have HB2 : Hid (B1 ≤ w2.heap.size) := Lib.hid (by rw [← ew2, setCells_sz]; exact HB0.out)
    have ew3 : (w1.setCell ⟨g, i * 2, none⟩ (.bool false)).setCell ⟨g, i * 2 + 1, none⟩ (.slice none 0 0) = w2 := ew2
    obtain ⟨S1, eS1⟩ : ∃ S1, (xs.map rkS).set i (false, []) = S1 := ⟨_, rfl⟩
    rw [eS1] at HF
    have HS1 : Hid ((ys.set i (⟨false, none, 0, []⟩ : Rk)).map rkS = S1) := Lib.hid (by rw [List.map_set, HS.out, ← eS1]; rfl)
    have HSL : Hid (S1.length = ys.length) := Lib.hid (by rw [← HS1.out]; simp)
    have HSB : Hid (∀ x ∈ S1, x.2.length ≤ 4096) := Lib.hid (fun x hx => by
      rw [← HS1.out] at hx
      obtain ⟨y, hy, rfl⟩ := List.mem_map.1 hx
      rcases List.mem_or_eq_of_mem_set hy with hy | rfl
      · exact HSM.out y hy
      · exact Nat.zero_le _)
    rw [ew3]
    clear ew2 ew3 eS1 eB1 HC HP HS HB0 g0 g1 g2 c1 c2 c2' HSM
    go_loopw [7] (fun u wr => ∃ (j : Nat) (zs : List Rk), j ≤ ys.length ∧ u = .int .i64 j ∧ Hid (zs.map rkS = frS i j S1) ∧ Hid (RmOwn W.heap.size B1 wr (some ⟨g, 0, none⟩) d zs) ∧ Hid (Past W.heap.size W wr) ∧ Hid (B1 ≤ wr.heap.size)) (fun u _ => ys.length - (intOf u).toNat)
    case atStart => exact ⟨0, _, Nat.zero_le _, rfl, Lib.hid (by rw [frS_zero]; exact HS1.out), HO2, HP2, HB2⟩
    case round =>
      clear HO2 HP2 HB2
      obtain ⟨j, zs, hj, rfl, HZ, HO, HP, HB⟩ := hrel
      by_cases t1 : j < ys.length
      · have t1' : (j : Int) < (ys.length : Int) := by omega
        have hjS : j < S1.length := by rw [HSL.out]; exact t1
        obtain ⟨⟨aj, lj⟩, eJ⟩ : ∃ x, S1[j] = x := ⟨_, rfl⟩
        have HJ := Lib.hid eJ
        have hsm : lj.length ≤ 4096 := by have := HSB.out _ (List.getElem_mem hjS); rw [eJ] at this; exact this
        have HST : Hid ((frS i j S1).set j (aj, frL i 0 lj) = frS i j S1) := Lib.hid (by
          rw [frL_zero]
          refine List.ext_getElem? fun m => ?_
          rw [List.getElem?_set, frS_at, frS_len]
          by_cases e : j = m
          · subst e
            rw [if_pos rfl, if_pos hjS, if_neg (by omega), List.getElem?_eq_getElem hjS, eJ]
          · rw [if_neg e])
        have HEN : Hid ((frS i j S1).set j (aj, frL i lj.length lj) = frS i (j + 1) S1) := Lib.hid (by
          rw [frL_all, ← frS_step _ _ _ hjS, eJ])
        have HLN : Hid ((frS (i : Int) j S1).length = ys.length) := Lib.hid (by rw [frS_len, HSL.out])
        clear eJ
        go_wp2_with fail
        go_loopw [8] (fun u wr => ∃ (m : Nat) (vs : List Rk), m ≤ lj.length ∧ u = .int .i64 m ∧ Hid (vs.map rkS = (frS i j S1).set j (aj, frL i m lj)) ∧ Hid (RmOwn W.heap.size B1 wr (some ⟨g, 0, none⟩) d vs) ∧ Hid (Past W.heap.size W wr) ∧ Hid (B1 ≤ wr.heap.size)) (fun u _ => lj.length - (intOf u).toNat)
        case atStart => exact ⟨0, zs, Nat.zero_le _, rfl, Lib.hid (by rw [HST.out]; exact HZ.out), HO, HP, HB⟩
        case round =>
          clear HZ HO HP HB
          obtain ⟨m, vs, hm, rfl, HZ, HO, HP, HB⟩ := hrel
          have hvl : vs.length = ys.length := by have := congrArg List.length HZ.out; rw [List.length_map, List.length_set, HLN.out] at this; exact this
          have hjv : j < vs.length := by omega
          have hvj : rkS vs[j] = (aj, frL i m lj) := by
            have := congrArg (fun l => l[j]?) HZ.out
            simp only [List.getElem?_map, List.getElem?_eq_getElem hjv, Option.map_some, List.getElem?_set] at this
            rw [if_pos trivial, if_pos (by rw [HLN.out]; exact t1)] at this
            injection this
          obtain ⟨g', eg', f1, hcap⟩ := HO.out.at' j hjv
          obtain rfl : g = g' := by injection eg' with e; injection e
          have hl1 : vs[j].l = frL i m lj := congrArg Prod.snd hvj
          have ha1 : vs[j].a = aj := congrArg Prod.fst hvj
          have hll : vs[j].l.length = lj.length := by rw [hl1, frL_len]
          have HVL := Lib.hid hvl
          by_cases t2 : m < lj.length
          · have t2' : (m : Int) < (lj.length : Int) := by omega
            have hmv : m < vs[j].l.length := by omega
            obtain ⟨gb, eb, hb1, hb2, ⟨g0, g1, g2, g3, g4, g5⟩, hby⟩ := HO.out.byte j hjv m hmv q0
            have hym : vs[j].l[m] = lj[m] := by
              have e1 : vs[j].l[m]? = (frL i m lj)[m]? := by rw [hl1]
              rw [frL_at, if_neg (by omega), List.getElem?_eq_getElem hmv, List.getElem?_eq_getElem t2] at e1
              injection e1
            have hcb := (RkOwn.lies (a := 0) (b := 0) (w := w1) (x := vs[j]))
            clear hcb
            rw [hll, eb] at f1
            rw [hym] at g0 g1 g2 g3 g4
            have HBY := Lib.hid hby
            have HV1 : Hid (vs.map rkS = (frS i j S1).set j (aj, frL i m lj)) := HZ
            have HLQ := Lib.hid (And.intro hl1 ha1)
            have HGG := Lib.hid (And.intro hb1 hb2)
            have HFL : Hid (frL i (m + 1) lj = (frL i m lj).set m (lostTo i lj[m])) := Lib.hid (frL_step _ _ _ t2).symm
            have HFS : Hid (lostTo (i : Int) lj[m] = lj[m] → frL (i : Int) m lj = frL i (m + 1) lj) := Lib.hid (frL_skip _ _ _ t2)
            obtain ⟨⟨yk, yb, ybk, yo, yi⟩, ey⟩ : ∃ y, lj[m] = y := ⟨_, rfl⟩
            rw [ey] at g0 g1 g2 g3 g4 HFL HFS
            simp only at g0 g1 g2 g3 g4
            clear hvj hl1 ha1 hll hby hym ey eg' hmv eb hvl hb1 hb2
            by_cases q1 : yk = 2 ∧ ybk = (i : Int)
            · have r1 : (yk == 2) = true := by rw [q1.1]; rfl
              have r2 : (ybk == (i : Int)) = true := by rw [q1.2]; simp
              have HL0 : Hid (lostTo (i : Int) ⟨yk, yb, ybk, yo, yi⟩ = q0) := Lib.hid (if_pos q1)
              clear q1
              go_wp2_with fail
              have hsz : B1 ≤ (wr.setCells gb (m * 5) (byC q0)).heap.size := by rw [setCells_sz]; exact HB.out
              have hmp : (vs.set j (⟨vs[j].a, vs[j].p, vs[j].c, vs[j].l.set m q0⟩ : Rk)).map rkS = (frS i j S1).set j (aj, frL i (m + 1) lj) := by
                have e : rkS (⟨vs[j].a, vs[j].p, vs[j].c, vs[j].l.set m q0⟩ : Rk) = (aj, frL i (m + 1) lj) := by
                  show (vs[j].a, vs[j].l.set m q0) = _
                  rw [HLQ.out.1, HLQ.out.2, HFL.out, HL0.out]
                rw [List.map_set, HZ.out, List.set_set, e]
              exact ⟨⟨m + 1, _, t2, by go_num, Lib.hid hmp, Lib.hid HBY.out, Lib.hid (Past.setCells HGG.out.1 (byC q0) (m * 5) HP.out), Lib.hid hsz⟩, by simp [intOf]; omega⟩
            · have HL0 : Hid (lostTo (i : Int) ⟨yk, yb, ybk, yo, yi⟩ = ⟨yk, yb, ybk, yo, yi⟩) := Lib.hid (if_neg q1)
              by_cases q2 : yk = 2
              · have r1 : (yk == 2) = true := by rw [q2]; rfl
                have r2 : (ybk == (i : Int)) = false := by simpa using fun e => q1 ⟨q2, e⟩
                clear q1 q2
                go_wp2_with fail
                exact ⟨⟨m + 1, vs, t2, by go_num, Lib.hid (by rw [← HFS.out HL0.out]; exact HZ.out), HO, HP, HB⟩, by simp [intOf]; omega⟩
              · have r1 : (yk == 2) = false := by simpa using q2
                clear q1 q2
                go_wp2_with fail
                exact ⟨⟨m + 1, vs, t2, by go_num, Lib.hid (by rw [← HFS.out HL0.out]; exact HZ.out), HO, HP, HB⟩, by simp [intOf]; omega⟩
          · obtain rfl : m = lj.length := by omega
            rw [hll] at f1
            clear hvj hl1 ha1 hll eg' hvl
            go_wp2_with fail
            exact ⟨⟨j + 1, vs, t1, by go_num, Lib.hid (by rw [← HEN.out]; exact HZ.out), HO, HP, HB⟩, by simp [intOf]; omega⟩
      · obtain rfl : j = ys.length := by omega
        go_wp2_with fail
        go_ret
        have hlz : zs.length = ys.length := by have := congrArg List.length HZ.out; rw [List.length_map, frS_len, HSL.out] at this; exact this
        have hz : zs.map rkS = S1.map (fun x => (x.1, x.2.map (lostTo (i : Int)))) := by rw [HZ.out, ← HSL.out, frS_all]
        refine ⟨some ⟨g, 0, none⟩, d, zs, by rw [hlz]; rfl, ⟨⟨HO.out.1, HO.out.2.1, fun g e => Nat.lt_of_lt_of_le (HO.out.2.2.1 g e) HB.out, HO.out.2.2.2.up HB.out⟩, fun y hy => ?_, ?_, HP.out⟩⟩
        · have hm : rkS y ∈ S1.map (fun x => (x.1, x.2.map (lostTo (i : Int)))) := by rw [← hz]; exact List.mem_map_of_mem hy
          obtain ⟨x, hx, e⟩ := List.mem_map.1 hm
          have e2 : y.l = x.2.map (lostTo (i : Int)) := (congrArg Prod.snd e).symm
          rw [e2, List.length_map]
          exact HSB.out x hx
        · rw [sD_rk, hz]; exact HF.out.symm
end Go.Proofs.Ytkbkgbkoplcgeaa
