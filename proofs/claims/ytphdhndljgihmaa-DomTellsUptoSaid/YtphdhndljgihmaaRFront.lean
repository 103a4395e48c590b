/- The document's Frontier. -/
import Derived.Test.YtphdhndljgihmaaTab
import Derived.Test.YtphdhndljgihmaaDList
import Derived.Test.YtphdhndljgihmaaRPre
import Derived.Test.YtphdhndljgihmaaGPairs
namespace Go.Proofs.Ytphdhndljgihmaa
open Go.RowKit Go.Maps
set_option linter.unusedVariables false
set_option linter.unusedSimpArgs false

open Classical in
/-- Does a dominate one of these? -/
noncomputable def swB (S : Nat → List Nat) (a : Nat) (P : List Nat) : Bool := decide (∃ q ∈ P, Dm S a q)
theorem swB_nil (S : Nat → List Nat) (a : Nat) : swB S a [] = false := by unfold swB; simp
theorem swB_snoc (S : Nat → List Nat) (a q : Nat) (P : List Nat) : swB S a (P ++ [q]) = (swB S a P || dmB S a q) := by
  rw [Bool.eq_iff_iff]
  unfold swB
  simp only [Bool.or_eq_true, decide_eq_true_eq, dmB_iff]
  constructor
  · rintro ⟨x, hx, h⟩
    rcases List.mem_append.1 hx with k | k
    · exact .inl ⟨x, k, h⟩
    · rw [List.mem_singleton] at k
      subst k
      exact .inr h
  · rintro (⟨x, hx, h⟩ | h)
    · exact ⟨x, List.mem_append_left _ hx, h⟩
    · exact ⟨q, by simp, h⟩
theorem swB_end {S : Nat → List Nat} {n : Nat} (hn : 0 < n) (hS : ∀ b, ∀ t ∈ S b, t < n) (a b : Nat) : frB S a b = (swB S a (predUpto S n b) && (decide (a = b) || !dmB S a b)) := by
  rw [Bool.eq_iff_iff, frB_iff]
  unfold Fr swB
  simp only [Bool.and_eq_true, Bool.or_eq_true, decide_eq_true_eq, Bool.not_eq_true', ← Bool.not_eq_true, dmB_iff]
  constructor
  · rintro ⟨⟨p, h1, h2⟩, h3⟩
    exact ⟨⟨p, (mem_predUpto S n b p).2 ⟨rch_lt hn hS h2.2.1, h1⟩, h2⟩, h3⟩
  · rintro ⟨⟨p, h1, h2⟩, h3⟩
    exact ⟨⟨p, ((mem_predUpto S n b p).1 h1).2, h2⟩, h3⟩
/-- The rows, at a's row, with the blocks below b. -/
noncomputable def frW (S : Nat → List Nat) (n a b x : Nat) : List Nat := if x < a then frUpto S n x else if x = a then frUpto S b a else []
theorem frW_0 (S : Nat → List Nat) (n x : Nat) : frW S n 0 0 x = [] := by
  unfold frW
  rw [if_neg (Nat.not_lt_zero _)]
  split
  · exact frUpto_0 _ _
  · rfl
theorem frW_row (S : Nat → List Nat) (n a x : Nat) : frW S n a n x = frW S n (a + 1) 0 x := by
  unfold frW
  by_cases h1 : x < a
  · rw [if_pos h1, if_pos (by omega)]
  · rw [if_neg h1]
    by_cases h2 : x = a
    · subst h2
      rw [if_pos rfl, if_pos (by omega)]
    · rw [if_neg h2, if_neg (by omega)]
      split
      · exact (frUpto_0 _ _).symm
      · rfl
theorem frW_end {S : Nat → List Nat} {n x : Nat} (hx : x < n) : frW S n n 0 x = frUpto S n x := by unfold frW; rw [if_pos hx]
theorem frW_no {S : Nat → List Nat} {n a b : Nat} (h : frB S a b = false) (x : Nat) : frW S n a (b + 1) x = frW S n a b x := by
  unfold frW
  rw [frUpto_succ, h]
  simp
theorem frW_yes {S : Nat → List Nat} {n a b : Nat} (h : frB S a b = true) (x : Nat) : frW S n a (b + 1) x = if x = a then frW S n a b a ++ [b] else frW S n a b x := by
  unfold frW
  rw [frUpto_succ, h]
  by_cases h1 : x = a
  · subst h1
    simp
  · simp [h1]
theorem frW_len (S : Nat → List Nat) (n a b : Nat) : (frW S n a b a).length ≤ b := by
  unfold frW
  rw [if_neg (Nat.lt_irrefl _), if_pos rfl]
  exact frUpto_len S b a
theorem BB.stay {R n k hi : Nat} {Bk : Nat → Nat} {M : Nat → Nat → Bool} {w w' : World} (h : BB R n k Bk M w) (hh : w.heap.size ≤ hi) (hs : Stay 0 hi w w') : BB R n k Bk M w' :=
  ⟨h.row.of_block (hs R (Nat.zero_le _) (Nat.lt_of_lt_of_le h.row.lt hh)), h.up, fun i hi' => (h.each i hi').of_block (hs _ (Nat.zero_le _) (Nat.lt_of_lt_of_le (h.each i hi').lt hh)), h.ap⟩
set_option maxRecDepth 100000 in
set_option maxHeartbeats 8000000 in
theorem rFrontier_own (f : LFn) (W : World) (hf : FnIn W.heap.size W f) (hs : FnSm f) (hbs : f.bs.length ≤ 1048576) :
    Calls Try.prog 16 #[.agg (fnC f).toArray] W (OwnLL f.bs.length (fun t => ints (frUpto (succP (fnD f).bs) f.bs.length t)) W) := by
  have hmk := run_make_row' (P := Try.prog) 29 22 _ _ Try.underlying29 infoInts rfl .i64 .i64 f.bs.length (by omega) (by omega)
  have hP := (Past.refl (Nat.le_refl W.heap.size)).alloc (.cells (fnC f).toArray 25)
  have A1 : Box W.heap.size (fnC f) (W.alloc (.cells (fnC f).toArray 25)) := Box.new W rfl _ _
  have HN : Hid (∀ b, ∀ t ∈ succP (fnD f).bs b, t < f.bs.length) := Lib.hid (fun b t ht => by
    have := succP_lt _ _ t ht
    simpa [fnD] using this)
  have c1 := rTable_own f (W.alloc (.cells (fnC f).toArray 25)) (past_lasts lasts_Fn hf hP) hs hbs
  have cP : ∀ (w : World), Past W.heap.size W w → Calls Try.prog 35 #[.agg (fnC f).toArray] w (OwnLL f.bs.length (fun t => ints (predUpto (succP (fnD f).bs) f.bs.length t)) w) := fun w h => rPreds_own f w (past_lasts lasts_Fn hf h) hs hbs
  obtain ⟨S, eS⟩ : ∃ S, succP (fnD f).bs = S := ⟨_, rfl⟩
  simp only [eS] at c1 cP HN ⊢
  obtain ⟨nm, pp, pn, pc, ps, rt, bp, bn, bc, bs⟩ := f
  obtain rfl : bn = bs.length := hf.2.1
  show Calls Try.prog 16 #[.agg #[.string nm, .slice pp pn pc, .int .i64 rt, .slice bp bs.length bc]] W _
  have hfc : fnC ⟨nm, pp, pn, pc, ps, rt, bp, bs.length, bc, bs⟩ = [.string nm, .slice pp pn pc, .int .i64 rt, .slice bp bs.length bc] := rfl
  rw [hfc] at A1 hP
  simp only [hfc] at c1 cP
  obtain ⟨n, en⟩ : ∃ n, bs.length = n := ⟨_, rfl⟩
  simp only [en] at c1 cP A1 hP hbs HN hmk ⊢
  have a0 := A1.get 0 _ rfl
  have a1 := A1.get 1 _ rfl
  have a2 := A1.get 2 _ rfl
  have a3 := A1.get 3 _ rfl
  have HB := Lib.hid (And.intro hP A1)
  have HC := Lib.hid cP
  clear hP A1 cP hf hs eS hfc en
  go_enter Try.func16, Try.ntmps16
  go_wp2_with fail
  refine c1.mono ?_
  rintro e w1 ⟨RT, Bk, rfl, hp1, hRT, hB⟩
  have hPW := HB.out.1.trans ⟨HB.out.1.size, hp1.2.mono HB.out.1.size⟩
  have hbx := HB.out.2.later hp1.2
  have b0 := hbx.get 0 _ rfl
  have b1 := hbx.get 1 _ rfl
  have b2 := hbx.get 2 _ rfl
  have b3 := hbx.get 3 _ rfl
  have c2 := HC.out w1 hPW
  have HT := Lib.hid (And.intro hPW (And.intro hbx hB))
  clear a0 a1 a2 a3 c1 hp1 hRT hB hPW hbx HB
  go_wp2_with fail
  refine c2.mono ?_
  rintro e w2 ⟨RP, vp, rfl, hp2, hRP, hll⟩
  have hPW := HT.out.1.trans ⟨HT.out.1.size, hp2.2.mono HT.out.1.size⟩
  have hbx := HT.out.2.1.later hp2.2
  have hB := HT.out.2.2.later hp2.2
  have hWl : W.heap.size < w2.heap.size := hbx.1
  have hL := LL.new w2 n
  have I0 : PreI W [.string nm, .slice pp pn pc, .int .i64 rt, .slice bp n bc] w2.heap.size n (fun _ => .slice none 0 0) (fun t => ints (frW S n 0 0 t)) (w2.alloc (.cells (madeCells #[.slice none 0 0] n) 22)) := ⟨hPW.alloc _, hbx.alloc _, hWl, hL.congr (fun i _ => by rw [frW_0]; rfl)⟩
  have hst0 : Stay 0 w2.heap.size w2 (w2.alloc (.cells (madeCells #[.slice none 0 0] n) 22)) := below_stay ((Below.refl _ _).alloc (Nat.le_refl _) _) (Nat.le_refl _)
  have HX := Lib.hid (And.intro I0 (And.intro hst0 (And.intro hB hll)))
  clear b0 b1 b2 b3 c2 hp2 hRP hll hPW hbx hB hL I0 hst0 HT HC
  obtain ⟨i0, hi, hz0, hz1, hz2⟩ := info_parts infoInt
  go_wp2_with fail
  clear hmk
  go_loopw [7] (fun t wr => ∃ (a : Nat) (vs : Nat → Value), a ≤ n ∧ t = .int .i64 a ∧ PreI W [.string nm, .slice pp pn pc, .int .i64 rt, .slice bp n bc] w2.heap.size n vs (fun t => ints (frW S n a 0 t)) wr ∧ Stay 0 w2.heap.size w2 wr) (fun t _ => n - (intOf t).toNat)
  case atStart => exact ⟨0, _, Nat.zero_le _, rfl, HX.out.1, HX.out.2.1⟩
  case round =>
    obtain ⟨a, vs, han, rfl, hI, hst⟩ := hrel
    by_cases hlta : a < n
    · have HI := Lib.hid (And.intro hI hst)
      clear hI hst
      go_wp2_with fail
      go_loopw [8] (fun t wr => ∃ (b : Nat) (vs : Nat → Value), b ≤ n ∧ t = .int .i64 b ∧ PreI W [.string nm, .slice pp pn pc, .int .i64 rt, .slice bp n bc] w2.heap.size n vs (fun t => ints (frW S n a b t)) wr ∧ Stay 0 w2.heap.size w2 wr) (fun t _ => n - (intOf t).toNat)
      case atStart => exact ⟨0, vs, Nat.zero_le _, rfl, HI.out.1, HI.out.2⟩
      case round =>
        obtain ⟨b, vs2, hbn, rfl, hI2, hst2⟩ := hrel
        by_cases hltb : b < n
        · obtain ⟨P, eP⟩ : ∃ P, predUpto S n b = P := ⟨_, rfl⟩
          have hP : ∀ i (hi : i < P.length), P[i] < n := by
            subst eP
            exact fun i hi => ((mem_predUpto S n b _).1 (List.getElem_mem hi)).1
          have hPl : P.length ≤ n := by rw [← eP]; exact predUpto_le S n b
          have hend : frB S a b = (swB S a P && (decide (a = b) || !dmB S a b)) := by rw [← eP]; exact swB_end (by omega) HN.out a b
          have hll := HX.out.2.2.2.stay (hi := w2.heap.size) (Nat.le_refl _) (hst2.mono (Nat.zero_le _) (Nat.le_refl _))
          obtain ⟨pq, pcc, hpq⟩ := hll.slice hltb
          have hBn := HX.out.2.2.1.stay (Nat.le_refl _) hst2
          have hrow : ∀ w, Below wr.heap.size wr w → w.cell? ⟨RP, b, none⟩ = some (.slice pq P.length pcc) := fun w h => by
            have cp := (hll.later h).row.cell hltb
            rw [hpq] at cp
            simp only [eP, ints_len] at cp
            exact cp
          have hown : ∀ w, Below wr.heap.size wr w → w.ownsRow (RP + 1) 3 1 (.slice pq (ints P).length pcc) (ints P).length ((ints P).flatMap intC) := fun w h => by
            have hown := (hll.later h).own b hltb
            rw [hpq] at hown
            simp only [eP] at hown
            exact hown
          obtain ⟨g, eg⟩ : ∃ g, Bk a = g := ⟨_, rfl⟩
          have ht0 : ∀ w, Below wr.heap.size wr w → w.cell? ⟨RT, a, none⟩ = some (.slice (some ⟨g, 0, none⟩) n n) := fun w h => by
            have t0 := (hBn.later h).row.cell hlta
            simp only [hlta, if_true, eg] at t0
            exact t0
          have hda : ∀ w, Below wr.heap.size wr w → ∀ d, d < n → w.cell? ⟨g, d, none⟩ = some (.bool (dmB S a d)) := fun w h d hd => by
            have := ((hBn.later h).each a hlta).cell hd
            rw [eg] at this
            exact this
          have HY := Lib.hid (And.intro hI2 (And.intro hst2 (And.intro hown (And.intro hP (And.intro hend (And.intro hda (And.intro hrow ht0)))))))
          have sw0 := swB_nil S a
          clear hI2 hst2 hown hP hend hda hll hpq hBn eP eg hrow ht0
          generalize wr = wo at *
          go_wp2_with fail
          go_loopw [9, 10] (fun q t wr => ∃ i : Nat, i ≤ P.length ∧ t = .int .i64 i ∧ q = .bool (swB S a (P.take i)) ∧ Below wo.heap.size wo wr) (fun _ t _ => P.length - (intOf t).toNat)
          case atStart => exact ⟨0, Nat.zero_le _, rfl, by rw [List.take_zero, sw0], Below.refl _ _⟩
          case round =>
            obtain ⟨i, hil, rfl, rfl, hbw⟩ := hrel
            have cp := HY.out.2.2.2.2.2.2.1 wr hbw
            have t0 := HY.out.2.2.2.2.2.2.2 wr hbw
            by_cases hlti : i < P.length
            · obtain ⟨pa, rfl, _, hc⟩ := own_int (HY.out.2.2.1 wr hbw) hlti
              have htk : P.take (i + 1) = P.take i ++ [P[i]] := List.take_succ_eq_append_getElem hlti
              have hsn := swB_snoc S a P[i] (P.take i)
              rw [← htk] at hsn
              have hd := HY.out.2.2.2.1 i hlti
              have td := HY.out.2.2.2.2.2.1 wr hbw P[i] hd
              obtain ⟨d, ed⟩ : ∃ d, P[i] = d := ⟨_, rfl⟩
              rw [ed] at hc hd td hsn
              obtain ⟨s, es⟩ : ∃ s, swB S a (P.take i) = s := ⟨_, rfl⟩
              obtain ⟨y, ey⟩ : ∃ y, dmB S a d = y := ⟨_, rfl⟩
              rw [ey] at td hsn
              rw [es] at hsn
              simp only [es]
              have HSN := Lib.hid (And.intro hsn hbw)
              clear hsn htk ed es ey hbw
              cases s
              case true =>
                go_wp2_with fail
                go_quiet (fail)
                all_goals
                  go_wp2_with fail
                  exact ⟨⟨i + 1, by omega, by go_num, by rw [HSN.out.1]; rfl, HSN.out.2.trans (below_drewN _ _ _)⟩, by simp [intOf]; omega⟩
              case false =>
                go_wp2_with fail
                go_quiet (fail)
                all_goals
                  go_wp2_with fail
                  exact ⟨⟨i + 1, by omega, by go_num, by rw [HSN.out.1]; rfl, HSN.out.2.trans (below_drewN _ _ _)⟩, by simp [intOf]; omega⟩
            · obtain rfl : i = P.length := by omega
              rw [List.take_length]
              have hend := HY.out.2.2.2.2.1
              have hI3 := HY.out.1.later hbw
              have hst3 := HY.out.2.1.trans (below_stay (a := 0) (b := w2.heap.size) hbw (by have := HY.out.1.ll.row.lt; omega))
              have tb := HY.out.2.2.2.2.2.1 wr hbw b hltb
              have hno : frB S a b = false → PreI W [.string nm, .slice pp pn pc, .int .i64 rt, .slice bp n bc] w2.heap.size n vs2 (fun t => ints (frW S n a (b + 1) t)) wr := fun h => hI3.congr (fun x _ => by rw [frW_no h])
              obtain ⟨s, es⟩ : ∃ s, swB S a P = s := ⟨_, rfl⟩
              obtain ⟨y, ey⟩ : ∃ y, dmB S a b = y := ⟨_, rfl⟩
              rw [es, ey] at hend
              rw [ey] at tb
              rw [es]
              have HJ := Lib.hid (And.intro hI3 (And.intro hst3 hno))
              have HEN := Lib.hid hend
              clear hno hend es ey hI3 hst3 hbw
              cases s
              case false =>
                have HZ := Lib.hid (HJ.out.2.2 (by rw [HEN.out]; rfl))
                go_wp2_with fail
                exact ⟨⟨b + 1, vs2, by omega, by go_num, HZ.out, HJ.out.2.1⟩, by simp [intOf]; omega⟩
              case true =>
                by_cases hq : a ≠ b ∧ y = true
                · obtain ⟨hab, rfl⟩ := hq
                  have hd1 : ((a : Int) == (b : Int)) = false := by simp; omega
                  have HZ := Lib.hid (HJ.out.2.2 (by rw [HEN.out]; simp [hab]))
                  clear hab
                  go_wp2_with fail
                  exact ⟨⟨b + 1, vs2, by omega, by go_num, HZ.out, HJ.out.2.1⟩, by simp [intOf]; omega⟩
                · have hyes : frB S a b = true := by
                    rw [HEN.out]
                    cases y
                    · simp
                    · have : a = b := Classical.byContradiction fun e => hq ⟨e, rfl⟩
                      simp [this]
                  obtain ⟨q, cc, hq2⟩ := HJ.out.1.ll.slice hlta
                  have hr0 := HJ.out.1.ll.row.cell hlta
                  have hr1 := (HJ.out.1.alloc (.cells #[.int .i64 b] 3)).ll.row.cell hlta
                  rw [hq2] at hr0 hr1
                  have hml : (ints (frW S n a b a)).length ≤ 1048577 := by
                    rw [ints_len]
                    have := frW_len S n a b
                    omega
                  obtain ⟨M, eM⟩ : ∃ M, ints (frW S n a b a) = M := ⟨_, rfl⟩
                  simp only [eM] at hq2 hr0 hr1 hml
                  have HIA := Lib.hid (HJ.out.1.alloc (.cells #[.int .i64 b] 3))
                  have hown := HIA.out.ll.own a hlta
                  simp only [hq2, eM] at hown
                  have HQ := Lib.hid (And.intro hq2 (And.intro eM hown))
                  have hstp := fun x => frW_yes (n := n) hyes x
                  have HST := Lib.hid hstp
                  have hbig : w2.heap.size + 1 ≤ wr.heap.size := by have := HJ.out.1.ll.row.lt; omega
                  clear hq2 eM hown hstp hyes HEN
                  by_cases hab : a = b
                  · have hd1 : ((a : Int) == (b : Int)) = true := by simp [hab]
                    clear hq tb hab
                    go_wp2_with (at_builtin; refine wpList_append_at rfl (.tmp 76) (.tmp 78) 22 rfl (w2.heap.size + 1) 3 i0 _ 1 8 Try.underlying22 hi hz0 hz1 hz2 rfl (by decide) (.slice q M.length cc) M.length (M.flatMap intC) rfl HQ.out.2.2 (some ⟨wr.heap.size, 0, none⟩) 1 1 [.int .i64 b] rfl rfl (lit_one _ _ _) (by intro u hu; simp at hu; subst hu; rfl) (by unfold maxLen; omega) (by omega) (by simp; omega) ?_
                                 intro v6 w6 hown6 hgrow6 hmv6
                                 obtain ⟨q6, c6, rfl⟩ := row_slice hown6
                                 have hr6 := rowIs_kept HIA.out.ll.row hgrow6 (fun e => by have := (HQ.out.2.2.lt _ e.symm).1; omega)
                                 have k0 := hr6.cell hlta
                                 have kf := hr6.frozen a
                                 rw [HQ.out.1] at k0
                                 have H6 := Lib.hid (And.intro hown6 (And.intro hgrow6 hmv6))
                                 clear hr6 hown6 hgrow6 hmv6)
                    clear k0 kf
                    have hnew := HIA.out.snoc hlta (x := (b : Int)) (v' := .slice q6 (M.length + 1) c6) (by rw [HQ.out.2.1]; exact H6.out.1) (by rw [HQ.out.1]; exact H6.out.2.1) (by rw [HQ.out.1]; exact H6.out.2.2)
                    have hs6 : Stay 0 w2.heap.size wr (w6.setCell ⟨w2.heap.size, a, none⟩ (.slice q6 (M.length + 1) c6)) := fun k _ h2 => by
                      rw [Below.heap_setCell _ _ _ _ (by dsimp only; omega)]
                      rw [H6.out.2.1.block k (by simp; omega) (fun e => by have := (HQ.out.2.2.lt _ e.symm).1; omega)]
                      exact ((Below.refl wr.heap.size wr).alloc (Nat.le_refl _) (.cells #[.int .i64 b] 3)).block k (by omega)
                    refine ⟨⟨b + 1, _, by omega, by go_num, hnew.congr (fun j hj => ?_), HJ.out.2.1.trans hs6⟩, by simp [intOf]; omega⟩
                    rw [HST.out j]
                    by_cases e : j = a
                    · subst e
                      rw [if_pos rfl, if_pos rfl, ints_app]
                      rfl
                    · rw [if_neg e, if_neg e]
                  · have hd1 : ((a : Int) == (b : Int)) = false := by simp; omega
                    obtain rfl : y = false := by
                      cases y
                      · rfl
                      · exact absurd ⟨hab, rfl⟩ hq
                    clear hq hab
                    go_wp2_with (at_builtin; refine wpList_append_at rfl (.tmp 76) (.tmp 78) 22 rfl (w2.heap.size + 1) 3 i0 _ 1 8 Try.underlying22 hi hz0 hz1 hz2 rfl (by decide) (.slice q M.length cc) M.length (M.flatMap intC) rfl HQ.out.2.2 (some ⟨wr.heap.size, 0, none⟩) 1 1 [.int .i64 b] rfl rfl (lit_one _ _ _) (by intro u hu; simp at hu; subst hu; rfl) (by unfold maxLen; omega) (by omega) (by simp; omega) ?_
                                 intro v6 w6 hown6 hgrow6 hmv6
                                 obtain ⟨q6, c6, rfl⟩ := row_slice hown6
                                 have hr6 := rowIs_kept HIA.out.ll.row hgrow6 (fun e => by have := (HQ.out.2.2.lt _ e.symm).1; omega)
                                 have k0 := hr6.cell hlta
                                 have kf := hr6.frozen a
                                 rw [HQ.out.1] at k0
                                 have H6 := Lib.hid (And.intro hown6 (And.intro hgrow6 hmv6))
                                 clear hr6 hown6 hgrow6 hmv6)
                    clear k0 kf
                    have hnew := HIA.out.snoc hlta (x := (b : Int)) (v' := .slice q6 (M.length + 1) c6) (by rw [HQ.out.2.1]; exact H6.out.1) (by rw [HQ.out.1]; exact H6.out.2.1) (by rw [HQ.out.1]; exact H6.out.2.2)
                    have hs6 : Stay 0 w2.heap.size wr (w6.setCell ⟨w2.heap.size, a, none⟩ (.slice q6 (M.length + 1) c6)) := fun k _ h2 => by
                      rw [Below.heap_setCell _ _ _ _ (by dsimp only; omega)]
                      rw [H6.out.2.1.block k (by simp; omega) (fun e => by have := (HQ.out.2.2.lt _ e.symm).1; omega)]
                      exact ((Below.refl wr.heap.size wr).alloc (Nat.le_refl _) (.cells #[.int .i64 b] 3)).block k (by omega)
                    refine ⟨⟨b + 1, _, by omega, by go_num, hnew.congr (fun j hj => ?_), HJ.out.2.1.trans hs6⟩, by simp [intOf]; omega⟩
                    rw [HST.out j]
                    by_cases e : j = a
                    · subst e
                      rw [if_pos rfl, if_pos rfl, ints_app]
                      rfl
                    · rw [if_neg e, if_neg e]
        · obtain rfl : b = n := by omega
          have HZ := Lib.hid (And.intro (hI2.congr (M' := fun t => ints (frW S b (a + 1) 0 t)) (fun x _ => by rw [frW_row])) hst2)
          clear hI2 hst2
          go_wp2_with fail
          exact ⟨⟨a + 1, vs2, by omega, by go_num, HZ.out.1, HZ.out.2⟩, by simp [intOf]; omega⟩
    · obtain rfl : a = n := by omega
      have HZ := Lib.hid (hI.congr (M' := fun t => ints (frUpto S a t)) (fun x hx => by rw [frW_end hx]))
      clear hI hst
      go_wp2_with fail
      go_ret
      exact ⟨w2.heap.size, vs, rfl, HZ.out.past, Nat.le_of_lt hWl, HZ.out.ll⟩
end Go.Proofs.Ytphdhndljgihmaa
