/- Package ir: sameness of functions. -/
import Derived.Test.YtpfeiolmkbibiaaOwnQ
namespace Go.Proofs.Ytpfeiolmkbibiaa
open Go.RowKit Go.Maps
set_option linter.unusedVariables false
set_option linter.unusedSimpArgs false
set_option maxRecDepth 100000 in
set_option maxHeartbeats 2000000 in
theorem EqInts_any (W : World) (p p' : Option Addr) (n n' c c' : Nat) (ts ts' : List Int) (h : ListIn intC NoMem W.heap.size W p n c ts) (h' : ListIn intC NoMem W.heap.size W p' n' c' ts') :
    Calls Try.prog 61 #[.slice p n c, .slice p' n' c'] W (Tells (ts = ts') W) := by
  obtain rfl : n = ts.length := h.1
  obtain rfl : n' = ts'.length := h'.1
  have k2 := h.2.1
  have k3 := h.2.2.1
  have k2' := h'.2.1
  have k3' := h'.2.2.1
  unfold maxLen at k3 k3'
  have H := Lib.hid h
  have H' := Lib.hid h'
  clear h h'
  go_enter Try.func61, Try.ntmps61
  by_cases hl : ts.length = ts'.length
  · have hl2 : ((ts.length : Int) != (ts'.length : Int)) = false := by simp [hl]
    have HL := Lib.hid hl
    clear hl
    go_wp2_with fail
    go_loopw [13] (fun t wr => ∃ k : Nat, k ≤ ts.length ∧ t = .int .i64 k ∧ Below W.heap.size W wr ∧ Hid (∀ i (h1 : i < ts.length) (h2 : i < ts'.length), i < k → ts[i] = ts'[i])) (fun t _ => ts.length - (intOf t).toNat)
    case atStart => exact ⟨0, Nat.zero_le _, rfl, Below.refl _ _, Lib.hid (fun i _ _ h => absurd h (Nat.not_lt_zero i))⟩
    case round =>
      obtain ⟨k, hk, rfl, hb, hE⟩ := hrel
      by_cases hlt : k < ts.length
      · have hlt' : k < ts'.length := by have := HL.out; omega
        obtain ⟨a, rfl, ha, hc⟩ := int_row H.out k hlt
        obtain ⟨a', rfl, ha', hc'⟩ := int_row H'.out k hlt'
        have f0 := (hb.cell (p := a.add k) (by rw [add_block]; exact ha)).trans hc
        have f0' := (hb.cell (p := a'.add k) (by rw [add_block]; exact ha')).trans hc'
        clear hc hc'
        by_cases hq : ts[k] = ts'[k]
        · have hq2 : (ts[k] != ts'[k]) = false := by simp [hq]
          have HQ := Lib.hid hq
          clear hq
          go_wp2_with fail
          go_region
          all_goals go_wp2
          all_goals exact ⟨⟨k + 1, by omega, by go_num, by first | exact hb | exact below_drew hb, Lib.hid (fun i h1 h2 h3 => by
            by_cases e : i = k
            · subst e; exact HQ.out
            · exact hE.out i h1 h2 (by omega))⟩, by simp [intOf]; omega⟩
        · have hq2 : (ts[k] != ts'[k]) = true := by simpa using hq
          have HQ := Lib.hid hq
          clear hq
          go_wp2_with fail
          go_region
          all_goals go_wp2
          all_goals go_ret
          all_goals exact ⟨false, rfl, by simp only [Bool.false_eq_true, false_iff]; intro e; subst e; exact HQ.out rfl, by first | exact hb | exact below_drew hb⟩
      · go_wp2_with fail
        go_ret
        refine ⟨true, rfl, ?_, hb⟩
        simp only [true_iff]
        exact list_ext HL.out (fun i h1 h2 => hE.out i h1 h2 (by omega))
  · have hl2 : ((ts.length : Int) != (ts'.length : Int)) = true := by simp; omega
    have HL := Lib.hid hl
    clear hl
    go_wp2_with fail
    go_ret
    exact ⟨false, rfl, by simp only [Bool.false_eq_true, false_iff]; intro e; subst e; exact HL.out rfl, Below.refl _ _⟩
set_option maxRecDepth 100000 in
set_option maxHeartbeats 2000000 in
theorem EqVals_any (W : World) (p p' : Option Addr) (n n' c c' : Nat) (ts ts' : List Arg) (h : ListIn argC NoMem W.heap.size W p n c ts) (h' : ListIn argC NoMem W.heap.size W p' n' c' ts') :
    Calls Try.prog 74 #[.slice p n c, .slice p' n' c'] W (Tells (ts = ts') W) := by
  obtain rfl : n = ts.length := h.1
  obtain rfl : n' = ts'.length := h'.1
  have k2 := h.2.1
  have k3 := h.2.2.1
  have k2' := h'.2.1
  have k3' := h'.2.2.1
  unfold maxLen at k3 k3'
  have H := Lib.hid h
  have H' := Lib.hid h'
  clear h h'
  go_enter Try.func74, Try.ntmps74
  by_cases hl : ts.length = ts'.length
  · have hl2 : ((ts.length : Int) != (ts'.length : Int)) = false := by simp [hl]
    have HL := Lib.hid hl
    clear hl
    go_wp2_with fail
    go_loopw [13] (fun t wr => ∃ k : Nat, k ≤ ts.length ∧ t = .int .i64 k ∧ Below W.heap.size W wr ∧ Hid (∀ i (h1 : i < ts.length) (h2 : i < ts'.length), i < k → ts[i] = ts'[i])) (fun t _ => ts.length - (intOf t).toNat)
    case atStart => exact ⟨0, Nat.zero_le _, rfl, Below.refl _ _, Lib.hid (fun i _ _ h => absurd h (Nat.not_lt_zero i))⟩
    case round =>
      obtain ⟨k, hk, rfl, hb, hE⟩ := hrel
      by_cases hlt : k < ts.length
      · have hlt' : k < ts'.length := by have := HL.out; omega
        obtain ⟨a, rfl, ha, hc⟩ := arg_row H.out k hlt
        obtain ⟨a', rfl, ha', hc'⟩ := arg_row H'.out k hlt'
        obtain ⟨f0, f1, f2⟩ := hc.below hb (by rw [add_block]; exact ha)
        obtain ⟨f0', f1', f2'⟩ := hc'.below hb (by rw [add_block]; exact ha')
        clear hc hc'
        by_cases q0 : ts[k].kind = ts'[k].kind ∧ ts[k].n = ts'[k].n ∧ ts[k].bits = ts'[k].bits
        · have HQ : Hid (ts[k] = ts'[k]) := Lib.hid (arg_ext q0.1 q0.2.1 q0.2.2)
          obtain ⟨q1, q2, q3⟩ := q0
          rw [← q1] at f0'
          rw [← q2] at f1'
          rw [← q3] at f2'
          clear q1 q2 q3
          go_wp2_with fail
          go_region
          all_goals go_wp2
          all_goals exact ⟨⟨k + 1, by omega, by go_num, by first | exact hb | exact below_drew hb, Lib.hid (fun i h1 h2 h3 => by
            by_cases e : i = k
            · subst e; exact HQ.out
            · exact hE.out i h1 h2 (by omega))⟩, by simp [intOf]; omega⟩
        · have HQ : Hid (¬ ts[k] = ts'[k]) := Lib.hid (fun e => q0 ⟨by rw [e], by rw [e], by rw [e]⟩)
          by_cases q1 : ts[k].kind = ts'[k].kind
          · rw [← q1] at f0'
            by_cases q2 : ts[k].n = ts'[k].n
            · rw [← q2] at f1'
              have q3 : ¬ ts[k].bits = ts'[k].bits := fun q3 => q0 ⟨q1, q2, q3⟩
              clear q0 q1 q2
              go_wp2_with fail
              go_region
              all_goals go_wp2
              all_goals go_ret
              all_goals exact ⟨false, rfl, by simp only [Bool.false_eq_true, false_iff]; intro e; subst e; exact HQ.out rfl, by first | exact hb | exact below_drew hb⟩
            · clear q0 q1
              go_wp2_with fail
              go_region
              all_goals go_wp2
              all_goals go_ret
              all_goals exact ⟨false, rfl, by simp only [Bool.false_eq_true, false_iff]; intro e; subst e; exact HQ.out rfl, by first | exact hb | exact below_drew hb⟩
          · clear q0
            go_wp2_with fail
            go_region
            all_goals go_wp2
            all_goals go_ret
            all_goals exact ⟨false, rfl, by simp only [Bool.false_eq_true, false_iff]; intro e; subst e; exact HQ.out rfl, by first | exact hb | exact below_drew hb⟩
      · go_wp2_with fail
        go_ret
        refine ⟨true, rfl, ?_, hb⟩
        simp only [true_iff]
        exact list_ext HL.out (fun i h1 h2 => hE.out i h1 h2 (by omega))
  · have hl2 : ((ts.length : Int) != (ts'.length : Int)) = true := by simp; omega
    have HL := Lib.hid hl
    clear hl
    go_wp2_with fail
    go_ret
    exact ⟨false, rfl, by simp only [Bool.false_eq_true, false_iff]; intro e; subst e; exact HL.out rfl, Below.refl _ _⟩

set_option maxRecDepth 100000 in
set_option maxHeartbeats 2000000 in
theorem EqFunc_C (h : FuncId) (hen : ∀ (args : Array Value) (w : World), (callFunc h args).run Try.prog w = .ok (.enter h args) w) (hcall : ∀ x y w, InsIn w.heap.size w x → InsIn w.heap.size w y → Calls Try.prog h #[.agg (liC x).toArray, .agg (liC y).toArray] w (Tells (insD x = insD y) w))
    (W : World) (p p' : Option Addr) (n n' c c' : Nat) (xs ys : List LI) (hx : ListIn liC InsIn W.heap.size W p n c xs) (hy : ListIn liC InsIn W.heap.size W p' n' c' ys) :
    Calls Try.prog 69 #[.slice p n c, .slice p' n' c', .func (.func h) #[] #[]] W (Tells (xs.map insD = ys.map insD) W) := by
  obtain rfl : n = xs.length := hx.1
  obtain rfl : n' = ys.length := hy.1
  have k2 := hx.2.1
  have k3 := hx.2.2.1
  have k2' := hy.2.1
  have k3' := hy.2.2.1
  unfold maxLen at k3 k3'
  have H := Lib.hid hx
  have H' := Lib.hid hy
  have HC := Lib.hid hcall
  clear hx hy hcall
  go_enter Try.func69, Try.ntmps69
  by_cases hl : xs.length = ys.length
  · have hl2 : ((xs.length : Int) != (ys.length : Int)) = false := by simp [hl]
    have HL := Lib.hid hl
    clear hl
    go_wp2_with fail
    go_loopw [17] (fun t wr => ∃ k : Nat, k ≤ xs.length ∧ t = .int .i64 k ∧ Past W.heap.size W wr ∧ Hid (∀ i (h1 : i < xs.length) (h2 : i < ys.length), i < k → insD xs[i] = insD ys[i])) (fun t _ => xs.length - (intOf t).toNat)
    case atStart => exact ⟨0, Nat.zero_le _, rfl, Past.refl (Nat.le_refl _), Lib.hid (fun i _ _ h => absurd h (Nat.not_lt_zero i))⟩
    case round =>
      obtain ⟨k, hk, rfl, hb, hE⟩ := hrel
      by_cases hlt : k < xs.length
      · have hlt' : k < ys.length := by have := HL.out; omega
        obtain ⟨a, rfl, ha, hc⟩ := li_row H.out k hlt
        obtain ⟨a', rfl, ha', hc'⟩ := li_row H'.out k hlt'
        obtain ⟨z0, z1, z2, z3, z4, z5, z6⟩ := hc.below hb.2 (by rw [add_block]; exact ha)
        obtain ⟨y0, y1, y2, y3, y4, y5, y6⟩ := hc'.below hb.2 (by rw [add_block]; exact ha')
        have hw := hb.2.size
        have u1 : (a'.add (k * 7)).block < wr.heap.size := by rw [add_block]; omega
        have u2 : a'.block < wr.heap.size := by omega
        have e1 := H.out.2.2.2.2 _ (List.getElem_mem hlt)
        have e2 := H'.out.2.2.2.2 _ (List.getElem_mem hlt')
        have P2 := (hb.alloc (.cells #[.int .i64 xs[k].1.op, .int .i64 xs[k].1.reg, .int .i64 xs[k].1.ty, .int .i64 xs[k].1.n, .int .i64 xs[k].1.fl, .slice xs[k].1.ap xs[k].1.al xs[k].1.ac, .slice xs[k].1.tp xs[k].1.tl xs[k].1.tc] 25)).alloc (.cells #[.int .i64 ys[k].1.op, .int .i64 ys[k].1.reg, .int .i64 ys[k].1.ty, .int .i64 ys[k].1.n, .int .i64 ys[k].1.fl, .slice ys[k].1.ap ys[k].1.al ys[k].1.ac, .slice ys[k].1.tp ys[k].1.tl ys[k].1.tc] 25)
        have hcc := HC.out xs[k] ys[k] _ (past_lasts lasts_Ins e1 P2) (past_lasts lasts_Ins e2 P2)
        have HCC := Lib.hid hcc
        clear hc hc' e1 e2 hcc
        go_wp2_with fail
        refine HCC.out.mono ?_
        rintro e w2 ⟨bt, rfl, hbt, hb2⟩
        have P3 := P2.trans ⟨P2.size, hb2.mono P2.size⟩
        cases bt
        · go_wp2_with fail
          go_ret
          refine ⟨false, rfl, ?_, P3.2⟩
          simp only [Bool.false_eq_true, false_iff] at hbt ⊢
          intro e
          have e5 : (xs.map insD)[k]? = (ys.map insD)[k]? := by rw [e]
          rw [List.getElem?_map, List.getElem?_map, List.getElem?_eq_getElem hlt, List.getElem?_eq_getElem hlt'] at e5
          exact hbt (Option.some.inj e5)
        · have hq := hbt.1 rfl
          have HQ := Lib.hid hq
          clear hq hbt
          go_wp2_with fail
          exact ⟨⟨k + 1, by omega, by go_num, P3, Lib.hid (fun i h1 h2 h3 => by
            by_cases e : i = k
            · subst e; exact HQ.out
            · exact hE.out i h1 h2 (by omega))⟩, by simp [intOf]; omega⟩
      · go_wp2_with fail
        go_ret
        refine ⟨true, rfl, ?_, hb.2⟩
        simp only [true_iff]
        exact list_ext (by simpa using HL.out) (fun i h1 h2 => by simpa using hE.out i (by simpa using h1) (by simpa using h2) (Nat.lt_of_lt_of_le (by simpa using h1) (by omega)))
  · have hl2 : ((xs.length : Int) != (ys.length : Int)) = true := by simp; omega
    have HL := Lib.hid hl
    clear hl
    go_wp2_with fail
    go_ret
    exact ⟨false, rfl, by simp only [Bool.false_eq_true, false_iff]; intro e; have e2 := congrArg List.length e; rw [List.length_map, List.length_map] at e2; exact HL.out e2, Below.refl _ _⟩

set_option maxRecDepth 100000 in
set_option maxHeartbeats 2000000 in
theorem EqFunc_B (h : FuncId) (hen : ∀ (args : Array Value) (w : World), (callFunc h args).run Try.prog w = .ok (.enter h args) w) (hcall : ∀ x y w, BlkIn w.heap.size w x → BlkIn w.heap.size w y → Calls Try.prog h #[.agg (blkC x).toArray, .agg (blkC y).toArray] w (Tells (blkD x = blkD y) w))
    (W : World) (p p' : Option Addr) (n n' c c' : Nat) (xs ys : List LB) (hx : ListIn blkC BlkIn W.heap.size W p n c xs) (hy : ListIn blkC BlkIn W.heap.size W p' n' c' ys) :
    Calls Try.prog 62 #[.slice p n c, .slice p' n' c', .func (.func h) #[] #[]] W (Tells (xs.map blkD = ys.map blkD) W) := by
  obtain rfl : n = xs.length := hx.1
  obtain rfl : n' = ys.length := hy.1
  have k2 := hx.2.1
  have k3 := hx.2.2.1
  have k2' := hy.2.1
  have k3' := hy.2.2.1
  unfold maxLen at k3 k3'
  have H := Lib.hid hx
  have H' := Lib.hid hy
  have HC := Lib.hid hcall
  clear hx hy hcall
  go_enter Try.func62, Try.ntmps62
  by_cases hl : xs.length = ys.length
  · have hl2 : ((xs.length : Int) != (ys.length : Int)) = false := by simp [hl]
    have HL := Lib.hid hl
    clear hl
    go_wp2_with fail
    go_loopw [17] (fun t wr => ∃ k : Nat, k ≤ xs.length ∧ t = .int .i64 k ∧ Past W.heap.size W wr ∧ Hid (∀ i (h1 : i < xs.length) (h2 : i < ys.length), i < k → blkD xs[i] = blkD ys[i])) (fun t _ => xs.length - (intOf t).toNat)
    case atStart => exact ⟨0, Nat.zero_le _, rfl, Past.refl (Nat.le_refl _), Lib.hid (fun i _ _ h => absurd h (Nat.not_lt_zero i))⟩
    case round =>
      obtain ⟨k, hk, rfl, hb, hE⟩ := hrel
      by_cases hlt : k < xs.length
      · have hlt' : k < ys.length := by have := HL.out; omega
        obtain ⟨a, rfl, ha, hc⟩ := blk_row H.out k hlt
        obtain ⟨a', rfl, ha', hc'⟩ := blk_row H'.out k hlt'
        have f0 := (hb.2.cell (p := a.add k) (by rw [add_block]; exact ha)).trans hc
        have f0' := (hb.2.cell (p := a'.add k) (by rw [add_block]; exact ha')).trans hc'
        have hw := hb.2.size
        have u1 : (a'.add (k)).block < wr.heap.size := by rw [add_block]; omega
        have u2 : a'.block < wr.heap.size := by omega
        have e1 := H.out.2.2.2.2 _ (List.getElem_mem hlt)
        have e2 := H'.out.2.2.2.2 _ (List.getElem_mem hlt')
        have P2 := (hb.alloc (.cells #[.slice xs[k].p xs[k].n xs[k].k] 67)).alloc (.cells #[.slice ys[k].p ys[k].n ys[k].k] 67)
        have hcc := HC.out xs[k] ys[k] _ (past_lasts lasts_Blk e1 P2) (past_lasts lasts_Blk e2 P2)
        have HCC := Lib.hid hcc
        clear hc hc' e1 e2 hcc
        go_wp2_with fail
        refine HCC.out.mono ?_
        rintro e w2 ⟨bt, rfl, hbt, hb2⟩
        have P3 := P2.trans ⟨P2.size, hb2.mono P2.size⟩
        cases bt
        · go_wp2_with fail
          go_ret
          refine ⟨false, rfl, ?_, P3.2⟩
          simp only [Bool.false_eq_true, false_iff] at hbt ⊢
          intro e
          have e5 : (xs.map blkD)[k]? = (ys.map blkD)[k]? := by rw [e]
          rw [List.getElem?_map, List.getElem?_map, List.getElem?_eq_getElem hlt, List.getElem?_eq_getElem hlt'] at e5
          exact hbt (Option.some.inj e5)
        · have hq := hbt.1 rfl
          have HQ := Lib.hid hq
          clear hq hbt
          go_wp2_with fail
          exact ⟨⟨k + 1, by omega, by go_num, P3, Lib.hid (fun i h1 h2 h3 => by
            by_cases e : i = k
            · subst e; exact HQ.out
            · exact hE.out i h1 h2 (by omega))⟩, by simp [intOf]; omega⟩
      · go_wp2_with fail
        go_ret
        refine ⟨true, rfl, ?_, hb.2⟩
        simp only [true_iff]
        exact list_ext (by simpa using HL.out) (fun i h1 h2 => by simpa using hE.out i (by simpa using h1) (by simpa using h2) (Nat.lt_of_lt_of_le (by simpa using h1) (by omega)))
  · have hl2 : ((xs.length : Int) != (ys.length : Int)) = true := by simp; omega
    have HL := Lib.hid hl
    clear hl
    go_wp2_with fail
    go_ret
    exact ⟨false, rfl, by simp only [Bool.false_eq_true, false_iff]; intro e; have e2 := congrArg List.length e; rw [List.length_map, List.length_map] at e2; exact HL.out e2, Below.refl _ _⟩
end Go.Proofs.Ytpfeiolmkbibiaa
