/- The document's Fresh (package latheref02), of any function. -/
import Derived.Test.YtpfeiolmkbibiaaIrS
namespace Go.Proofs.Ytpfeiolmkbibiaa
open Go.RowKit Go.Maps
set_option linter.unusedVariables false
set_option linter.unusedSimpArgs false

theorem nm_cons (d : Ins) (r : Int) : (nmI d).contains r = (d.reg == r || (nmA d.args).contains r) := by
  unfold nmI
  rw [List.contains_cons]
  congr 1
  rw [Bool.eq_iff_iff]; simp; exact eq_comm
theorem nmA_no (l : List Arg) (r : Int) (h : ∀ k (hk : k < l.length), isU r l[k] = false) : (nmA l).contains r = false := by
  cases hc : (nmA l).contains r
  · rfl
  · have hm := List.contains_iff_mem.1 hc
    unfold nmA at hm
    obtain ⟨v, hv, e⟩ := List.mem_map.1 hm
    obtain ⟨hv1, hv2⟩ := List.mem_filter.1 hv
    obtain ⟨k, hk, rfl⟩ := List.mem_iff_getElem.1 hv1
    have := h k hk
    unfold isU at this
    rw [hv2, e] at this
    simp at this
theorem nmA_yes (l : List Arg) (r : Int) (k : Nat) (hk : k < l.length) (h : isU r l[k] = true) : (nmA l).contains r = true := by
  unfold isU at h
  simp only [Bool.and_eq_true, beq_iff_eq] at h
  refine List.contains_iff_mem.2 ?_
  unfold nmA
  exact List.mem_map.2 ⟨l[k], List.mem_filter.2 ⟨List.getElem_mem hk, by simpa using h.1⟩, h.2⟩
theorem nmL_yes (L : List Ins) (r : Int) (i : Nat) (h : i < L.length) (hd : (nmI L[i]).contains r = true) : (nmL L).contains r = true := by
  refine List.contains_iff_mem.2 ?_
  unfold nmL
  exact List.mem_flatMap.2 ⟨L[i], List.getElem_mem h, List.contains_iff_mem.1 hd⟩
theorem nmL_no (L : List Ins) (r : Int) (h : ∀ i (hi : i < L.length), (nmI L[i]).contains r = false) : (nmL L).contains r = false := by
  cases hc : (nmL L).contains r
  · rfl
  · have hm := List.contains_iff_mem.1 hc
    unfold nmL at hm
    obtain ⟨d, hd, e⟩ := List.mem_flatMap.1 hm
    obtain ⟨i, hi, rfl⟩ := List.mem_iff_getElem.1 hd
    have := h i hi
    rw [List.contains_iff_mem.2 e] at this
    cases this

set_option maxRecDepth 100000 in
set_option maxHeartbeats 2000000 in
theorem names_any (B : Nat) (d : Ins) (reg : Int) (W : World) (hB : B ≤ W.heap.size) (hd : ArgsAt B W d) :
    Calls Try.prog 56 #[d.val, .int .i64 reg] W fun e w' => e = .returned (.bool ((nmI d).contains reg)) ∧ Past W.heap.size W w' := by
  obtain ⟨hal, hac, hmx, hargs⟩ := hd
  unfold maxLen at hmx
  have HA := Lib.hid hargs
  clear hargs
  obtain ⟨op, rg, ty, nn, fl, ap, al, ac, tp, tl, tc, args⟩ := d
  simp only [] at *
  subst hal
  unfold Ins.val
  rw [nm_cons]
  simp only []
  obtain ⟨bv, ebv⟩ : ∃ bv, (nmA args).contains reg = bv := ⟨_, rfl⟩
  rw [ebv]
  have HNo : Hid ((∀ k (hk : k < args.length), isU reg args[k] = false) → bv = false) := Lib.hid fun h => by rw [← ebv]; exact nmA_no _ _ h
  have HYes : Hid (∀ k (hk : k < args.length), isU reg args[k] = true → bv = true) := Lib.hid fun k hk h => by rw [← ebv]; exact nmA_yes _ _ k hk h
  clear ebv
  by_cases hR : rg = reg
  · subst hR
    go_enter Try.func56, Try.ntmps56
    go_wp2_with fail
    go_ret
    exact ⟨ret_bool (by simp), (Past.refl (Nat.le_refl _)).alloc _⟩
  · have hR2 : (rg == reg) = false := by simpa using hR
    rw [hR2, Bool.false_or]
    have hP := (Past.refl (Nat.le_refl W.heap.size)).alloc (.cells #[.int .i64 op, .int .i64 rg, .int .i64 ty, .int .i64 nn, .int .i64 fl, .slice ap args.length ac, .slice tp tl tc] 25)
    go_enter Try.func56, Try.ntmps56
    go_wp2_with fail
    go_loopw [5] (fun t wr => ∃ k : Nat, k ≤ args.length ∧ t = .int .i64 k ∧ Hid (∀ j (hj : j < args.length), j < k → isU reg args[j] = false) ∧ wr = W.alloc (.cells #[.int .i64 op, .int .i64 rg, .int .i64 ty, .int .i64 nn, .int .i64 fl, .slice ap args.length ac, .slice tp tl tc] 25)) (fun t _ => args.length - (intOf t).toNat)
    case atStart => exact ⟨0, Nat.zero_le _, rfl, Lib.hid (fun j _ h => absurd h (Nat.not_lt_zero _)), rfl⟩
    case round =>
      obtain ⟨k, hk, rfl, HN, rfl⟩ := hrel
      by_cases hlt : k < args.length
      · obtain ⟨a, rfl, ha, hat⟩ := HA.out k hlt
        obtain ⟨b0, b1, b2⟩ := hat.below hP.2 (by rw [add_block]; omega)
        clear hat
        by_cases hK : args[k].kind = 1
        · by_cases hN : args[k].n = reg
          · have e := HYes.out k hlt (by simp [isU, hK, hN])
            subst e
            rw [hK] at b0
            rw [hN] at b1
            go_wp2_with fail
            go_ret
            exact ⟨rfl, hP⟩
          · have hN2 : (args[k].n == reg) = false := by simpa using hN
            have HU : Hid (isU reg args[k] = false) := Lib.hid (by simp [isU, hN2])
            rw [hK] at b0
            go_wp2_with fail
            refine ⟨⟨k + 1, by omega, by go_num, Lib.hid fun j hj hjk => ?_, by trivial⟩, by simp [intOf]; omega⟩
            by_cases hje : j = k
            · subst hje; exact HU.out
            · exact HN.out j hj (by omega)
        · have hK2 : (args[k].kind == 1) = false := by simpa using hK
          have HU : Hid (isU reg args[k] = false) := Lib.hid (by simp [isU, hK2])
          go_wp2_with fail
          refine ⟨⟨k + 1, by omega, by go_num, Lib.hid fun j hj hjk => ?_, by trivial⟩, by simp [intOf]; omega⟩
          by_cases hje : j = k
          · subst hje; exact HU.out
          · exact HN.out j hj (by omega)
      · obtain rfl : k = args.length := by omega
        have e := HNo.out fun j hj => HN.out j hj hj
        subst e
        go_wp2_with fail
        go_ret
        exact ⟨rfl, hP⟩

set_option maxRecDepth 100000 in
set_option maxHeartbeats 2000000 in
theorem rFresh_any (W : World) (s0 : ByteArray) (p1 : Option Addr) (n1 c1 : Nat) (rt : Int) (p2 : Option Addr) (n2 c2 : Nat) (l : List (List Ins)) (hl : BlocksAt W.heap.size W (.slice p2 n2 c2) l) (ha : AllArgs W.heap.size W l) (hn : cnt l.flatten + n1 ≤ 1048576) :
    Calls Try.prog 30 #[.agg #[.string s0, .slice p1 n1 c1, .int .i64 rt, .slice p2 n2 c2]] W (FreshEnds W.heap.size n1 (nmL l.flatten) W) := by
  have hc : l.flatten.length ≤ 1048576 := by unfold cnt at hn; omega
  have hP := (Past.refl (Nat.le_refl W.heap.size)).alloc (.cells #[.string s0, .slice p1 n1 c1, .int .i64 rt, .slice p2 n2 c2] 41)
  have cC := Code_any (W.alloc (.cells #[.string s0, .slice p1 n1 c1, .int .i64 rt, .slice p2 n2 c2] 41)) s0 p1 n1 c1 rt p2 n2 c2 l ((hl.below hP.2).mono hP.size) hc
  have ha1 : AllArgs W.heap.size (W.alloc (.cells #[.string s0, .slice p1 n1 c1, .int .i64 rt, .slice p2 n2 c2] 41)) l := ha.below hP.2
  have hle := nmL_le l.flatten
  obtain ⟨L, eL⟩ : ∃ L, l.flatten = L := ⟨_, rfl⟩
  have hc' : L.length ≤ 1048576 := by rw [← eL]; exact hc
  have hM : Hid ((nmL L).length + n1 ≤ 1048576) := Lib.hid (by rw [← eL]; omega)
  have hn1 : n1 ≤ 1048576 := by omega
  clear hn hle
  rw [eL]
  go_enter Try.func30, Try.ntmps30
  go_wp2_with fail
  refine cC.mono ?_
  rintro e w1 ⟨vl, vp, rfl, hb1, hr1, hr2⟩
  have hP1 := hP.trans ⟨hP.size, hb1.mono hP.size⟩
  have k1 : w1.cell? ⟨W.heap.size, 1, none⟩ = some (.slice p1 n1 c1) := (hb1.cell (p := ⟨W.heap.size, 1, none⟩) (by simp)).trans (by rw [World.cell?_alloc_at _ _ _ _ rfl]; rfl)
  have hz0 : W.heap.size < w1.heap.size := by have := hb1.size; simp at this; omega
  have HC := Lib.hid (codeAt_flat eL hr1)
  have HA := Lib.hid ((ha.below hP1.2).flatL eL)
  clear cC hl ha ha1 hr1 hr2 hb1 hP
  clear eL hc
  obtain ⟨q, cap, rfl, hd1, hd2, hcd⟩ := HC.out
  unfold maxLen at hd2
  have HCD := Lib.hid hcd
  clear hcd HC
  have hz := hP1.size
  go_wp2_with fail
  have hn0 : (0 : Int) ≤ (n1 : Int) := by omega
  go_loopw [5] (fun t wr => ∃ j : Nat, t = .int .i64 ((n1 : Int) + j) ∧ j ≤ (nmL L).length ∧ Hid (∀ i : Nat, i < j → (nmL L).contains ((n1 : Int) + i) = true) ∧ Past w1.heap.size w1 wr)
    (fun t _ => (nmL L).length + 1 - (intOf t - (n1 : Int)).toNat)
  case atStart => exact ⟨0, by simp, Nat.zero_le _, Lib.hid (fun i hi => absurd hi (Nat.not_lt_zero i)), Past.refl (Nat.le_refl _)⟩
  case round =>
    obtain ⟨j, rfl, hj, hall, hb⟩ := hrel
    have u1 : (n1 : Int) + j < 9223372036854775807 := by have := hM.out; omega
    have u0 : 0 ≤ (n1 : Int) + j := by omega
    obtain ⟨N, eN⟩ : ∃ N : Int, (n1 : Int) + j = N := ⟨_, rfl⟩
    have EN := Lib.hid eN
    rw [eN] at u1 u0
    simp only [eN]
    clear eN
    go_wp2_with fail
    go_loopw [6, 7] (fun u t wi => ∃ (i : Nat) (f : Bool), i ≤ L.length ∧ t = .int .i64 i ∧ u = .bool f ∧ Past w1.heap.size w1 wi ∧ Hid (f = true → ∀ j (hj : j < L.length), j < i → (nmI L[j]).contains N = false) ∧ Hid (f = false → (nmL L).contains N = true)) (fun _ t _ => L.length - (intOf t).toNat)
    case atStart => exact ⟨0, true, Nat.zero_le _, rfl, rfl, hb, Lib.hid (fun _ j _ h => absurd h (Nat.not_lt_zero _)), Lib.hid (fun h => by cases h)⟩
    case round =>
      obtain ⟨i, f, hi, rfl, rfl, hbi, HF, HT⟩ := hrel
      cases f
      · have hyes := HT.out (by trivial)
        have hall2 : ∀ i : Nat, i < j + 1 → (nmL L).contains ((n1 : Int) + i) = true := fun i hi => by
          by_cases e : i = j
          · subst e; rw [EN.out]; exact hyes
          · exact hall.out i (by omega)
        have hj2 := pigeon (nmL L) n1 (j + 1) hall2
        have HA2 := Lib.hid hall2
        clear hall2 hall hyes
        go_wp2_with fail
        all_goals exact ⟨⟨j + 1, by rw [← EN.out, Int.natCast_add]; simp; omega, hj2, HA2, hbi⟩, by have := EN.out; simp [intOf]; omega⟩
      · by_cases hlt : i < L.length
        · obtain ⟨a, rfl, hab, hins⟩ := HCD.out i hlt
          obtain ⟨f0, f1, f2, f3, f4, f5, f6⟩ := hins.below hbi.2 (by rw [add_block]; exact hab)
          have cn : Calls Try.prog 56 #[.agg #[.int .i64 L[i].op, .int .i64 L[i].reg, .int .i64 L[i].ty, .int .i64 L[i].n, .int .i64 L[i].fl, .slice L[i].ap L[i].al L[i].ac, .slice L[i].tp L[i].tl L[i].tc], .int .i64 N] wr fun e w' => e = .returned (.bool ((nmI L[i]).contains N)) ∧ Past wr.heap.size wr w' :=
            names_any W.heap.size L[i] N wr (Nat.le_trans hz hbi.size) ((HA.out i hlt).below (hbi.2.mono hz))
          obtain ⟨bv, ebv⟩ : ∃ bv, (nmI L[i]).contains N = bv := ⟨_, rfl⟩
          rw [ebv] at cn
          have EB := Lib.hid ebv
          clear ebv hins
          go_wp2_with fail
          refine cn.mono ?_
          rintro e w3 ⟨rfl, hb3⟩
          have hb4 : Past w1.heap.size w1 w3 := hbi.trans ⟨hbi.size, hb3.2.mono hbi.size⟩
          clear cn f0 f1 f2 f3 f4 f5 f6
          go_wp2_with fail
          refine ⟨⟨i + 1, !bv, by omega, by go_num, rfl, hb4, Lib.hid fun hf j hj hji => ?_, Lib.hid fun hf => ?_⟩, by simp [intOf]; omega⟩
          · have hb0 : bv = false := by simpa using hf
            by_cases hje : j = i
            · subst hje; rw [EB.out]; exact hb0
            · exact HF.out (by trivial) j hj (by omega)
          · have hb0 : bv = true := by simpa using hf
            exact nmL_yes L N i hlt (by rw [EB.out]; exact hb0)
        · obtain rfl : i = L.length := by omega
          have hno := nmL_no L N fun j hj => HF.out (by trivial) j hj hj
          rw [← EN.out] at hno
          have HNO := Lib.hid hno
          have P3 : Past W.heap.size W wr := hP1.trans ⟨hP1.size, hbi.2.mono hP1.size⟩
          clear hno
          go_wp2_with fail
          go_ret
          exact ⟨j, by have e := EN.out; subst e; rfl, HNO.out, hall.out, P3.2⟩
end Go.Proofs.Ytpfeiolmkbibiaa
