/- The document's Succs. -/
import Derived.Test.YtphdhndljgihmaaGPairs
namespace Go.Proofs.Ytphdhndljgihmaa
open Go.RowKit Go.Maps
set_option linter.unusedVariables false
set_option linter.unusedSimpArgs false

theorem mem_take_int (L : List Int) (i : Nat) (j : Int) (hi : i < L.length) : j ∈ L.take (i + 1) ↔ j ∈ L.take i ∨ j = L[i] := by
  rw [List.take_succ_eq_append_getElem hi, List.mem_append, List.mem_singleton]
set_option maxRecDepth 100000 in
set_option maxHeartbeats 1000000 in
theorem rHas_any (p : Option Addr) (c : Nat) (xs : List Int) (x : Int) (B : Nat) (W : World) (h : ListIn intC NoMem B W p xs.length c xs) :
    Calls Try.prog 51 #[.slice p xs.length c, .int .i64 x] W fun e w' => e = .returned (.bool (decide (x ∈ xs))) ∧ W = w' := by
  have k2 := h.2.1
  have k3 := h.2.2.1
  unfold maxLen at k3
  have H := Lib.hid h
  clear h
  go_enter Try.func51, Try.ntmps51
  go_wp2_with fail
  go_loopw [5] (fun t wr => ∃ i : Nat, i ≤ xs.length ∧ t = .int .i64 i ∧ Hid (x ∉ xs.take i) ∧ wr = W) (fun t _ => xs.length - (intOf t).toNat)
  case atStart => exact ⟨0, Nat.zero_le _, rfl, Lib.hid (by simp), rfl⟩
  case round =>
    obtain ⟨i, hile, rfl, hno, rfl⟩ := hrel
    by_cases hlt : i < xs.length
    · obtain ⟨a, rfl, ha, hc⟩ := int_row H.out i hlt
      have hm := Lib.hid (mem_take_int xs i x hlt)
      have hmem := Lib.hid (List.getElem_mem hlt)
      obtain ⟨y, ey⟩ : ∃ y, xs[i] = y := ⟨_, rfl⟩
      rw [ey] at hc hm hmem
      clear ey
      by_cases e : y = x
      · have hd : (y == x) = true := by simp [e]
        have hin : decide (x ∈ xs) = true := decide_eq_true (by rw [← e]; exact hmem.out)
        have HIN := Lib.hid hin
        clear hin e hmem
        go_wp2_with fail
        go_ret
        exact ⟨by rw [HIN.out]; rfl, rfl⟩
      · have hd : (y == x) = false := by simpa using e
        have hnew : Hid (x ∉ xs.take (i + 1)) := Lib.hid (fun h => (hm.out.1 h).elim hno.out (fun h => e h.symm))
        clear e hmem
        go_wp2_with fail
        exact ⟨⟨i + 1, by omega, by go_num, hnew, by trivial⟩, by simp [intOf]; omega⟩
    · obtain rfl : i = xs.length := by omega
      have hin : decide (x ∈ xs) = false := decide_eq_false (by have := hno.out; rw [List.take_length] at this; exact this)
      have HIN := Lib.hid hin
      clear hin
      go_wp2_with fail
      go_ret
      exact ⟨by rw [HIN.out]; rfl, rfl⟩
/-- What the document's loop keeps. -/
structure RSuI (W : World) (cs xs : List Value) (X : Nat) (L : List Nat) (v : Value) (w : World) : Prop where
  past : Past W.heap.size W w
  box : Box W.heap.size cs w
  xbox : Box X xs w
  lt : W.heap.size < X
  row : w.ownsRow (X + 1) 3 1 v L.length ((ints L).flatMap intC)
section
variable {W w w' : World} {cs xs : List Value} {X : Nat} {L : List Nat} {v : Value}
theorem RSuI.later (h : RSuI W cs xs X L v w) (hb : Below w.heap.size w w') : RSuI W cs xs X L v w' :=
  ⟨h.past.trans ⟨h.past.size, hb.mono h.past.size⟩, h.box.later hb, h.xbox.later hb, h.lt, h.row.kept (row := none) (below_grown hb) (by cases v.ownBlock <;> simp)⟩
theorem RSuI.alloc (h : RSuI W cs xs X L v w) (o : Obj) : RSuI W cs xs X L v (w.alloc o) := h.later ((Below.refl _ _).alloc (Nat.le_refl _) o)
theorem RSuI.more (h : RSuI W cs xs X L v w) {v' : Value} {t : Nat} (hr : w'.ownsRow (X + 1) 3 1 v' (L.length + 1) ((ints L).flatMap intC ++ [.int .i64 t])) (hg : w.grownBy w' v.ownBlock) : RSuI W cs xs X (L ++ [t]) v' w' := by
  have hl := h.lt
  have hlt := h.row.lt
  refine ⟨h.past.grownRow hg (fun j e => by have := (hlt j e).1; omega), h.box.kept hg (fun e => by have := (hlt _ e.symm).1; omega), h.xbox.kept hg (fun e => by have := (hlt _ e.symm).1; omega), h.lt, ?_⟩
  rw [List.length_append, ints_app, List.flatMap_append]
  exact hr
end
set_option maxRecDepth 100000 in
set_option maxHeartbeats 2000000 in
theorem rSuccs_own (f : LFn) (b : Int) (W : World) (h : FnIn W.heap.size W f) (hs : FnSm f) :
    Calls Try.prog 45 #[.agg (fnC f).toArray, .int .i64 b] W (OwnInts (succI (fnD f).bs b) W) := by
  obtain ⟨nm, pp, pn, pc, ps, rt, bp, bn, bc, bs⟩ := f
  obtain rfl : bn = bs.length := h.2.1
  have k2 : bs.length ≤ bc := h.2.2.1
  have k3 : bc ≤ maxLen := h.2.2.2.1
  unfold maxLen at k3
  have HS := Lib.hid hs
  have HH := Lib.hid h
  simp only [fnD]
  show Calls Try.prog 45 #[.agg #[.string nm, .slice pp pn pc, .int .i64 rt, .slice bp bs.length bc], .int .i64 b] W _
  have hP := (Past.refl (Nat.le_refl W.heap.size)).alloc (.cells #[.string nm, .slice pp pn pc, .int .i64 rt, .slice bp bs.length bc] 25)
  have A1 : Box W.heap.size [.string nm, .slice pp pn pc, .int .i64 rt, .slice bp bs.length bc] (W.alloc (.cells #[.string nm, .slice pp pn pc, .int .i64 rt, .slice bp bs.length bc] 25)) := Box.new W rfl _ _
  have a3 := A1.get 3 _ rfl
  have HP := Lib.hid (And.intro hP A1)
  clear h hs hP A1
  go_enter Try.func45, Try.ntmps45
  by_cases hin : 0 ≤ b ∧ b < (bs.length : Int)
  · obtain ⟨N, rfl⟩ := Int.eq_ofNat_of_zero_le hin.1
    have hN : N < bs.length := by omega
    clear hin
    have hd : decide (bs.length ≤ N) = false := by simp; omega
    obtain ⟨a, rfl, ha, hrow⟩ := blk_row HH.out.2 N hN
    have hrow2 := (HP.out.1.2.cell (p := a.add N) (by rw [add_block]; exact ha)).trans hrow
    have hblk := HH.out.2.2.2.2.2 bs[N] (List.getElem_mem hN)
    have hS := HS.out bs[N] (List.getElem_mem hN)
    obtain ⟨c, ec⟩ : ∃ c, bs[N] = c := ⟨_, rfl⟩
    rw [ec] at hrow2 hblk hS
    have HSU : Hid (succI (bs.map blkD) (N : Int) = succL bs.length (tgtP (blkD c))) := Lib.hid (by
      rw [succI_nat]
      unfold succP
      rw [List.length_map, List.getD_eq_getElem?_getD, List.getElem?_map, List.getElem?_eq_getElem hN, ec]
      rfl)
    obtain ⟨p, n, k, code⟩ := c
    obtain rfl : n = code.length := hblk.1
    have kc2 := hblk.2.1
    have kc3 := hblk.2.2.1
    unfold maxLen at kc3
    simp only at kc2 kc3
    have HBK := Lib.hid hblk
    clear hrow hblk ec HS
    by_cases h0 : code.length = 0
    · have hc : code = [] := List.eq_nil_of_length_eq_zero h0
      subst hc
      simp only [List.length_nil] at hrow2
      clear h0
      go_wp2_with fail
      go_ret
      rw [HSU.out]
      exact ⟨none, 0, rfl, HP.out.1, own_nil _ HP.out.1.size⟩
    · obtain ⟨m, em⟩ : ∃ m, code.length = m + 1 := ⟨code.length - 1, by omega⟩
      have hm : m < code.length := by omega
      obtain ⟨ac, rfl, hac, hI⟩ := ins_row HBK.out m hm
      obtain ⟨f0, f1, f2, f3, f4, f5, f6⟩ := hI.below HP.out.1.2 (by rw [add_block]; exact hac)
      have hT := tgtP_last code (by omega)
      have e1 : code.length - 1 = m := by omega
      simp only [e1] at hT
      have HL := (HBK.out.2.2.2.2 code[m] (List.getElem_mem hm)).2
      obtain ⟨x, ex⟩ : ∃ x, code[m] = x := ⟨_, rfl⟩
      rw [ex] at f0 f1 f2 f3 f4 f5 f6 hT HL
      obtain ⟨⟨op, rg, ty, nn, fl, ap, al, acc, tp, tl, tc, args⟩, ts⟩ := x
      obtain rfl : tl = ts.length := HL.1
      simp only at f0 f1 f2 f3 f4 f5 f6 hT HL
      have kt3 := HL.2.2.1
      unfold maxLen at kt3
      have HT := Lib.hid hT
      have HL2 := Lib.hid HL
      simp only [em] at hrow2 kc2 f0 f1 f2 f3 f4 f5 f6 ⊢
      have hcast : ((m + 1 : Nat) : Int) - 1 = m := by omega
      have hz : (((m + 1 : Nat) : Int) == 0) = false := by simp; omega
      clear hT HL hI ex e1 h0 em hm
      by_cases o1 : op = 31 ∨ op = 32
      · have HT : Hid (tgtP (code.map insD) = ts) := Lib.hid (HT.out.trans (if_pos o1))
        have HSL : Hid (succI (bs.map blkD) (N : Int) = succL bs.length ts) := Lib.hid (by rw [HSU.out]; unfold blkD; simp only; rw [HT.out])
        have hsz : ts.length ≤ 1048576 ∧ ∀ t ∈ ts, wfI t := by
          have h1 := hS
          unfold blkD at h1
          simp only at h1
          rw [HT.out] at h1
          exact h1
        have hz1 := hsz.1
        have HW := Lib.hid hsz.2
        have I0 : RSuI W [.string nm, .slice pp pn pc, .int .i64 rt, .slice (some a) bs.length bc] [.int .i64 op, .int .i64 rg, .int .i64 ty, .int .i64 nn, .int .i64 fl, .slice ap al acc, .slice tp ts.length tc] (W.heap.size + 1) [] (.slice none 0 0) ((W.alloc (.cells #[.string nm, .slice pp pn pc, .int .i64 rt, .slice (some a) bs.length bc] 25)).alloc (.cells #[.int .i64 op, .int .i64 rg, .int .i64 ty, .int .i64 nn, .int .i64 fl, .slice ap al acc, .slice tp ts.length tc] 51)) :=
          ⟨HP.out.1.alloc _, HP.out.2.alloc _, Box.new _ (by simp) _ _, Nat.lt_succ_self _, World.ownsRow_nil _ _ _ _⟩
        have HI0 := Lib.hid I0
        have y6 := I0.xbox.get 6 _ rfl
        have y0 := I0.xbox.get 0 _ rfl
        obtain ⟨i0, hi, hz0, hzz1, hz2⟩ := info_parts infoInt
        clear I0 hsz hS
        rcases o1 with rfl | rfl
        all_goals
          go_wp2_with fail
          clear y6 y0 f0 f1 f2 f3 f4 f5 f6 hrow2
          go_loopw [5, 8] (fun v t wr => ∃ (i : Nat) (q : Option Addr) (cc : Nat), i ≤ ts.length ∧ t = .int .i64 i ∧ v = .slice q (succL bs.length (ts.take i)).length cc ∧ RSuI W [.string nm, .slice pp pn pc, .int .i64 rt, .slice (some a) bs.length bc] [.int .i64 _, .int .i64 rg, .int .i64 ty, .int .i64 nn, .int .i64 fl, .slice ap al acc, .slice tp ts.length tc] (W.heap.size + 1) (succL bs.length (ts.take i)) (.slice q (succL bs.length (ts.take i)).length cc) wr) (fun _ t _ => ts.length - (intOf t).toNat)
          case atStart => exact ⟨0, none, 0, Nat.zero_le _, rfl, rfl, HI0.out⟩
          case round =>
            obtain ⟨i, q, cc, hile, rfl, rfl, hI⟩ := hrel
            have y6 := hI.xbox.get 6 _ rfl
            have b3 := hI.box.get 3 _ rfl
            by_cases hlt : i < ts.length
            · obtain ⟨at_, rfl, hat, hct⟩ := int_row HL2.out i hlt
              have hc2 := (hI.past.2.cell (p := at_.add i) (by rw [add_block]; exact hat)).trans hct
              have hstep := succL_take bs.length ts i hlt
              have hSl : (succL bs.length (ts.take i)).length ≤ i := by have := succL_len bs.length (ts.take i); simpa [List.length_take, Nat.min_eq_left hile] using this
              obtain ⟨S, eS⟩ : ∃ S, succL bs.length (ts.take i) = S := ⟨_, rfl⟩
              simp only [eS] at hI hstep hSl ⊢
              obtain ⟨t, et⟩ : ∃ t, ts[i] = t := ⟨_, rfl⟩
              rw [et] at hc2 hstep
              have hrow := hI.row
              have cH := rHas_any q cc (ints S) t wr.heap.size wr (by rw [ints_len]; exact ints_in (ints_own (B := W.heap.size + 1 + 1) hrow (B' := 0) (Nat.zero_le _) rfl (Nat.zero_le _)) (Nat.le_refl _))
              rw [ints_len] at cH
              have HI := Lib.hid hI
              have HST := Lib.hid hstep
              have hbig : W.heap.size + 1 + 1 ≤ wr.heap.size := by have := hI.xbox.1; omega
              clear hI hstep et eS hct hrow
              by_cases h1 : 0 ≤ t
              · obtain ⟨T, rfl⟩ := Int.eq_ofNat_of_zero_le h1
                have hTn : ((T : Nat) : Int).toNat = T := Int.toNat_natCast T
                by_cases h2 : T < bs.length
                · have hd2 : decide (T < bs.length) = true := by simp; omega
                  by_cases h3 : T ∈ S
                  · have hk : decide (((T : Nat) : Int) ∈ ints S) = true := decide_eq_true ((mem_ints S T).2 h3)
                    rw [hk] at cH
                    have HN := Lib.hid (HST.out.trans (newT_old (fun h => h.2.2 (by rw [hTn]; exact h3))))
                    clear h1 h2 h3 hk hTn
                    go_wp2_with fail
                    refine cH.mono ?_
                    rintro e w' ⟨rfl, rfl⟩
                    clear cH
                    go_wp2_with fail
                    go_quiet (fail)
                    all_goals
                      go_wp2_with fail
                      refine ⟨⟨i + 1, q, cc, by omega, by go_num, ?_, ?_⟩, by simp [intOf]; omega⟩
                      · rw [HN.out]
                      · rw [HN.out]; exact HI.out.later (below_drewN _ _ _)
                  · have hk : decide (((T : Nat) : Int) ∈ ints S) = false := decide_eq_false (fun h => h3 ((mem_ints S T).1 h))
                    rw [hk] at cH
                    have HN := Lib.hid (HST.out.trans (newT_new ⟨h1, by omega, by rw [hTn]; exact h3⟩))
                    clear h1 h2 h3 hk
                    go_wp2_with fail
                    refine cH.mono ?_
                    rintro e w' ⟨rfl, rfl⟩
                    clear cH
                    go_wp2_with fail
                    go_quiet (fail)
                    all_goals
                      generalize hzd : World.drewN wr _ = wd at *
                      have hbd : Below wr.heap.size wr wd := hzd ▸ below_drewN _ _ _
                      have y6 := (HI.out.later hbd).xbox.get 6 _ rfl
                      have hcd := (hbd.cell (p := at_.add i) (by rw [add_block]; exact Nat.lt_of_lt_of_le hat HI.out.past.size)).trans hc2
                      have HIA := Lib.hid ((HI.out.later hbd).alloc (.cells #[.int .i64 (T : Int)] 3))
                      have hbig2 : W.heap.size + 1 + 1 ≤ wd.heap.size := Nat.le_trans hbig hbd.size
                      clear hzd hbd hc2 hbig
                      go_wp2_with (at_builtin; refine wpList_append_at rfl (.tmp 80) (.tmp 86) 22 rfl (W.heap.size + 1 + 1) 3 i0 _ 1 8 Try.underlying22 hi hz0 hzz1 hz2 rfl (by decide) (.slice q S.length cc) S.length ((ints S).flatMap intC) rfl HIA.out.row (some ⟨wd.heap.size, 0, none⟩) 1 1 [.int .i64 (T : Int)] rfl rfl (lit_one _ _ _) (by intro u hu; simp at hu; subst hu; rfl) (by unfold maxLen; omega) (by omega) (by simp; omega) ?_; intro v6 w6 hown6 hgrow6 hmv6)
                      obtain ⟨q6, c6, rfl⟩ := row_slice hown6
                      have I6 := HIA.out.more hown6 hgrow6
                      have e6 : (S ++ [((T : Nat) : Int).toNat]).length = S.length + 1 := by simp
                      refine ⟨⟨i + 1, q6, c6, by omega, by go_num, ?_, ?_⟩, by simp [intOf]; omega⟩
                      · rw [HN.out, e6]
                      · rw [HN.out, e6, hTn]; exact I6
                · have hd2 : decide (T < bs.length) = false := by simp; omega
                  have HN := Lib.hid (HST.out.trans (newT_old (fun h => h2 (by omega))))
                  obtain ⟨kn, ekn⟩ : ∃ kn, decide (((T : Nat) : Int) ∈ ints S) = kn := ⟨_, rfl⟩
                  rw [ekn] at cH
                  clear h1 h2 hTn ekn
                  go_wp2_with fail
                  refine cH.mono ?_
                  rintro e w' ⟨rfl, rfl⟩
                  clear cH
                  go_wp2_with fail
                  go_quiet (fail)
                  all_goals
                    go_wp2_with fail
                    refine ⟨⟨i + 1, q, cc, by omega, by go_num, ?_, ?_⟩, by simp [intOf]; omega⟩
                    · rw [HN.out]
                    · rw [HN.out]; exact HI.out.later (below_drewN _ _ _)
              · have hd1 : decide (0 ≤ t) = false := by simp; omega
                have HN := Lib.hid (HST.out.trans (newT_old (fun h => h1 h.1)))
                obtain ⟨kn, ekn⟩ : ∃ kn, decide (t ∈ ints S) = kn := ⟨_, rfl⟩
                rw [ekn] at cH
                clear h1 ekn
                go_wp2_with fail
                refine cH.mono ?_
                rintro e w' ⟨rfl, rfl⟩
                clear cH
                go_wp2_with fail
                go_quiet (fail)
                all_goals
                  go_wp2_with fail
                  refine ⟨⟨i + 1, q, cc, by omega, by go_num, ?_, ?_⟩, by simp [intOf]; omega⟩
                  · rw [HN.out]
                  · rw [HN.out]; exact HI.out.later (below_drewN _ _ _)
            · obtain rfl : i = ts.length := by omega
              have HI := Lib.hid hI
              clear hI
              go_wp2_with fail
              go_ret
              have h1 := HI.out
              rw [List.take_length] at h1
              rw [HSL.out]
              refine ⟨q, cc, ?_, h1.past, ints_own h1.row (by omega) rfl h1.past.size⟩
              rw [List.take_length]
              rfl
      · have HT : Hid (tgtP (code.map insD) = []) := Lib.hid (HT.out.trans (if_neg o1))
        have g1 : (op != 31) = true := by simp; exact fun h => o1 (.inl h)
        have g2 : (op != 32) = true := by simp; exact fun h => o1 (.inr h)
        clear o1
        go_wp2_with fail
        go_ret
        have HSL : Hid (succI (bs.map blkD) (N : Int) = []) := Lib.hid (by rw [HSU.out]; unfold blkD; simp only; rw [HT.out]; rfl)
        rw [HSL.out]
        exact ⟨none, 0, rfl, HP.out.1.alloc _, own_nil _ (HP.out.1.alloc _).size⟩
  · rw [succI_out _ b (by rw [List.length_map]; exact hin)]
    by_cases h0 : 0 ≤ b
    · obtain ⟨N, rfl⟩ := Int.eq_ofNat_of_zero_le h0
      have hd : decide (bs.length ≤ N) = true := by simp; omega
      clear hin h0
      go_wp2_with fail
      go_ret
      exact ⟨none, 0, rfl, HP.out.1, own_nil _ HP.out.1.size⟩
    · have hd : decide (b < 0) = true := by simp; omega
      clear hin h0
      go_wp2_with fail
      go_ret
      exact ⟨none, 0, rfl, HP.out.1, own_nil _ HP.out.1.size⟩
end Go.Proofs.Ytphdhndljgihmaa
