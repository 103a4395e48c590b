/- What this seat takes of layer 2's texts (BaseE) -/
import Derived.Test.YtdfdgpobohpphaaBaseD
import Derived.Deep.AppendLies
namespace Go.Proofs.Ytdfdgpobohpphaa
open Go.RowKit Go.Maps
set_option linter.unusedVariables false
set_option linter.unusedSimpArgs false

/-- A place of the blocks: its instruction's own memory. -/
theorem cur_place {f : LI → LI} (hf : ∀ x, liC (f x) = liC x) {bs : List LB} {b k lo hi : Nat} {w : World} {bp : Option Addr} {bn bc : Nat} (hb : b < bs.length) (hk : k < bs[b].code.length) (h : ListOwn 43 1 blkC BlkOwn lo hi w bp bn bc (cur f bs b k)) :
    ∃ a c, lo ≤ a ∧ c ≤ hi ∧ InsOwn a c w bs[b].code[k] ∧ ∀ w', (∀ m, lo ≤ m → m < hi → (m < a ∨ c ≤ m) → w'.heap[m]? = w.heap[m]?) → InsOwn a c w' (f bs[b].code[k]) → ListOwn 43 1 blkC BlkOwn lo hi w' bp bn bc (cur f bs b (k + 1)) := by
  have hset := cur_set f bs b k hb hk
  have hlen := cur_len f bs b k
  have hget := cur_at f bs b k hb
  obtain ⟨cs', hcs'⟩ : ∃ cs', cs' = cur f bs b (k + 1) := ⟨_, rfl⟩
  obtain ⟨cs, hcs⟩ : ∃ cs, cs = cur f bs b k := ⟨_, rfl⟩
  rw [← hcs'] at hset ⊢
  rw [← hcs] at h hset hlen hget
  have hbc : b < cs.length := by rw [hlen]; exact hb
  rw [List.getElem?_eq_getElem hbc] at hget
  have hget := Option.some.inj hget
  obtain ⟨a1, b1, i1, i2, i3, hq1, up1⟩ := h.upd local_Blk b hbc
  rw [hget] at hq1
  unfold BlkOwn at hq1
  have hL : k < (pre f bs[b].code k).length := by rw [pre_len]; exact hk
  have ex := pre_get f bs[b].code k hk hL
  have hblk : blkC cs[b] = blkC bs[b] := by rw [hget]; rfl
  obtain ⟨a2, b2, j1, j2, j3, hq2, up2⟩ := hq1.upd local_Ins k hL
  rw [ex] at hq2
  refine ⟨a2, b2, by omega, by omega, hq2, fun w' hst hq' => ?_⟩
  rw [hset]
  refine up1 w' _ (by rw [hblk]; rfl) (fun m p q r => hst m p q (by omega)) ?_
  exact up2 w' _ (by rw [ex]; exact hf _) (fun m p q r => hst m (by omega) (by omega) r) hq'
set_option maxRecDepth 100000 in
set_option maxHeartbeats 2000000 in
theorem EqInts_any (W : World) (p p' : Option Addr) (n n' c c' : Nat) (ts ts' : List Int) (h : ListIn intC NoMem W.heap.size W p n c ts) (h' : ListIn intC NoMem W.heap.size W p' n' c' ts') :
    Calls Try.prog 25 #[.slice p n c, .slice p' n' c'] W (Tells (ts = ts') W) := by
  obtain rfl : n = ts.length := h.1
  obtain rfl : n' = ts'.length := h'.1
  have k2 := h.2.1
  have k3 := h.2.2.1
  have k2' := h'.2.1
  have k3' := h'.2.2.1
  unfold maxLen at k3 k3'
  have H := Lib.hid h
  have H' := Lib.hid h'
  clear h h'
  go_enter Try.func25, Try.ntmps25
  by_cases hl : ts.length = ts'.length
  · have hl2 : ((ts.length : Int) != (ts'.length : Int)) = false := by simp [hl]
    have HL := Lib.hid hl
    clear hl
    go_wp2_with fail
    go_loopw [13] (fun t wr => ∃ k : Nat, k ≤ ts.length ∧ t = .int .i64 k ∧ Below W.heap.size W wr ∧ Hid (∀ i (h1 : i < ts.length) (h2 : i < ts'.length), i < k → ts[i] = ts'[i])) (fun t _ => ts.length - (intOf t).toNat)
    case atStart => exact ⟨0, Nat.zero_le _, rfl, Below.refl _ _, Lib.hid (fun i _ _ h => absurd h (Nat.not_lt_zero i))⟩
    case round =>
      obtain ⟨k, hk, rfl, hb, hE⟩ := hrel
      by_cases hlt : k < ts.length
      · have hlt' : k < ts'.length := by have := HL.out; omega
        obtain ⟨a, rfl, ha, hc⟩ := int_row H.out k hlt
        obtain ⟨a', rfl, ha', hc'⟩ := int_row H'.out k hlt'
        have f0 := (hb.cell (p := a.add k) (by rw [add_block]; exact ha)).trans hc
        have f0' := (hb.cell (p := a'.add k) (by rw [add_block]; exact ha')).trans hc'
        clear hc hc'
        by_cases hq : ts[k] = ts'[k]
        · have hq2 : (ts[k] != ts'[k]) = false := by simp [hq]
          have HQ := Lib.hid hq
          clear hq
          go_wp2_with fail
          go_region
          all_goals go_wp2
          all_goals exact ⟨⟨k + 1, by omega, by go_num, by first | exact hb | exact below_drew hb, Lib.hid (fun i h1 h2 h3 => by
            by_cases e : i = k
            · subst e; exact HQ.out
            · exact hE.out i h1 h2 (by omega))⟩, by simp [intOf]; omega⟩
        · have hq2 : (ts[k] != ts'[k]) = true := by simpa using hq
          have HQ := Lib.hid hq
          clear hq
          go_wp2_with fail
          go_region
          all_goals go_wp2
          all_goals go_ret
          all_goals exact ⟨false, rfl, by simp only [Bool.false_eq_true, false_iff]; intro e; subst e; exact HQ.out rfl, by first | exact hb | exact below_drew hb⟩
      · go_wp2_with fail
        go_ret
        refine ⟨true, rfl, ?_, hb⟩
        simp only [true_iff]
        exact list_ext HL.out (fun i h1 h2 => hE.out i h1 h2 (by omega))
  · have hl2 : ((ts.length : Int) != (ts'.length : Int)) = true := by simp; omega
    have HL := Lib.hid hl
    clear hl
    go_wp2_with fail
    go_ret
    exact ⟨false, rfl, by simp only [Bool.false_eq_true, false_iff]; intro e; subst e; exact HL.out rfl, Below.refl _ _⟩
set_option maxRecDepth 100000 in
set_option maxHeartbeats 2000000 in
theorem EqVals_any (W : World) (p p' : Option Addr) (n n' c c' : Nat) (ts ts' : List Arg) (h : ListIn argC NoMem W.heap.size W p n c ts) (h' : ListIn argC NoMem W.heap.size W p' n' c' ts') :
    Calls Try.prog 45 #[.slice p n c, .slice p' n' c'] W (Tells (ts = ts') W) := by
  obtain rfl : n = ts.length := h.1
  obtain rfl : n' = ts'.length := h'.1
  have k2 := h.2.1
  have k3 := h.2.2.1
  have k2' := h'.2.1
  have k3' := h'.2.2.1
  unfold maxLen at k3 k3'
  have H := Lib.hid h
  have H' := Lib.hid h'
  clear h h'
  go_enter Try.func45, Try.ntmps45
  by_cases hl : ts.length = ts'.length
  · have hl2 : ((ts.length : Int) != (ts'.length : Int)) = false := by simp [hl]
    have HL := Lib.hid hl
    clear hl
    go_wp2_with fail
    go_loopw [13] (fun t wr => ∃ k : Nat, k ≤ ts.length ∧ t = .int .i64 k ∧ Below W.heap.size W wr ∧ Hid (∀ i (h1 : i < ts.length) (h2 : i < ts'.length), i < k → ts[i] = ts'[i])) (fun t _ => ts.length - (intOf t).toNat)
    case atStart => exact ⟨0, Nat.zero_le _, rfl, Below.refl _ _, Lib.hid (fun i _ _ h => absurd h (Nat.not_lt_zero i))⟩
    case round =>
      obtain ⟨k, hk, rfl, hb, hE⟩ := hrel
      by_cases hlt : k < ts.length
      · have hlt' : k < ts'.length := by have := HL.out; omega
        obtain ⟨a, rfl, ha, hc⟩ := arg_row H.out k hlt
        obtain ⟨a', rfl, ha', hc'⟩ := arg_row H'.out k hlt'
        obtain ⟨f0, f1, f2⟩ := hc.below hb (by rw [add_block]; exact ha)
        obtain ⟨f0', f1', f2'⟩ := hc'.below hb (by rw [add_block]; exact ha')
        clear hc hc'
        by_cases q0 : ts[k].kind = ts'[k].kind ∧ ts[k].n = ts'[k].n ∧ ts[k].bits = ts'[k].bits
        · have HQ : Hid (ts[k] = ts'[k]) := Lib.hid (arg_ext q0.1 q0.2.1 q0.2.2)
          obtain ⟨q1, q2, q3⟩ := q0
          rw [← q1] at f0'
          rw [← q2] at f1'
          rw [← q3] at f2'
          clear q1 q2 q3
          go_wp2_with fail
          go_region
          all_goals go_wp2
          all_goals exact ⟨⟨k + 1, by omega, by go_num, by first | exact hb | exact below_drew hb, Lib.hid (fun i h1 h2 h3 => by
            by_cases e : i = k
            · subst e; exact HQ.out
            · exact hE.out i h1 h2 (by omega))⟩, by simp [intOf]; omega⟩
        · have HQ : Hid (¬ ts[k] = ts'[k]) := Lib.hid (fun e => q0 ⟨by rw [e], by rw [e], by rw [e]⟩)
          by_cases q1 : ts[k].kind = ts'[k].kind
          · rw [← q1] at f0'
            by_cases q2 : ts[k].n = ts'[k].n
            · rw [← q2] at f1'
              have q3 : ¬ ts[k].bits = ts'[k].bits := fun q3 => q0 ⟨q1, q2, q3⟩
              clear q0 q1 q2
              go_wp2_with fail
              go_region
              all_goals go_wp2
              all_goals go_ret
              all_goals exact ⟨false, rfl, by simp only [Bool.false_eq_true, false_iff]; intro e; subst e; exact HQ.out rfl, by first | exact hb | exact below_drew hb⟩
            · clear q0 q1
              go_wp2_with fail
              go_region
              all_goals go_wp2
              all_goals go_ret
              all_goals exact ⟨false, rfl, by simp only [Bool.false_eq_true, false_iff]; intro e; subst e; exact HQ.out rfl, by first | exact hb | exact below_drew hb⟩
          · clear q0
            go_wp2_with fail
            go_region
            all_goals go_wp2
            all_goals go_ret
            all_goals exact ⟨false, rfl, by simp only [Bool.false_eq_true, false_iff]; intro e; subst e; exact HQ.out rfl, by first | exact hb | exact below_drew hb⟩
      · go_wp2_with fail
        go_ret
        refine ⟨true, rfl, ?_, hb⟩
        simp only [true_iff]
        exact list_ext HL.out (fun i h1 h2 => hE.out i h1 h2 (by omega))
  · have hl2 : ((ts.length : Int) != (ts'.length : Int)) = true := by simp; omega
    have HL := Lib.hid hl
    clear hl
    go_wp2_with fail
    go_ret
    exact ⟨false, rfl, by simp only [Bool.false_eq_true, false_iff]; intro e; subst e; exact HL.out rfl, Below.refl _ _⟩
set_option maxRecDepth 100000 in
set_option maxHeartbeats 2000000 in
theorem EqFunc_C (h : FuncId) (hen : ∀ (args : Array Value) (w : World), (callFunc h args).run Try.prog w = .ok (.enter h args) w) (hcall : ∀ x y w, InsIn w.heap.size w x → InsIn w.heap.size w y → Calls Try.prog h #[.agg (liC x).toArray, .agg (liC y).toArray] w (Tells (insD x = insD y) w))
    (W : World) (p p' : Option Addr) (n n' c c' : Nat) (xs ys : List LI) (hx : ListIn liC InsIn W.heap.size W p n c xs) (hy : ListIn liC InsIn W.heap.size W p' n' c' ys) :
    Calls Try.prog 39 #[.slice p n c, .slice p' n' c', .func (.func h) #[] #[]] W (Tells (xs.map insD = ys.map insD) W) := by
  obtain rfl : n = xs.length := hx.1
  obtain rfl : n' = ys.length := hy.1
  have k2 := hx.2.1
  have k3 := hx.2.2.1
  have k2' := hy.2.1
  have k3' := hy.2.2.1
  unfold maxLen at k3 k3'
  have H := Lib.hid hx
  have H' := Lib.hid hy
  have HC := Lib.hid hcall
  clear hx hy hcall
  go_enter Try.func39, Try.ntmps39
  by_cases hl : xs.length = ys.length
  · have hl2 : ((xs.length : Int) != (ys.length : Int)) = false := by simp [hl]
    have HL := Lib.hid hl
    clear hl
    go_wp2_with fail
    go_loopw [17] (fun t wr => ∃ k : Nat, k ≤ xs.length ∧ t = .int .i64 k ∧ Past W.heap.size W wr ∧ Hid (∀ i (h1 : i < xs.length) (h2 : i < ys.length), i < k → insD xs[i] = insD ys[i])) (fun t _ => xs.length - (intOf t).toNat)
    case atStart => exact ⟨0, Nat.zero_le _, rfl, Past.refl (Nat.le_refl _), Lib.hid (fun i _ _ h => absurd h (Nat.not_lt_zero i))⟩
    case round =>
      obtain ⟨k, hk, rfl, hb, hE⟩ := hrel
      by_cases hlt : k < xs.length
      · have hlt' : k < ys.length := by have := HL.out; omega
        obtain ⟨a, rfl, ha, hc⟩ := li_row H.out k hlt
        obtain ⟨a', rfl, ha', hc'⟩ := li_row H'.out k hlt'
        obtain ⟨z0, z1, z2, z3, z4, z5, z6⟩ := hc.below hb.2 (by rw [add_block]; exact ha)
        obtain ⟨y0, y1, y2, y3, y4, y5, y6⟩ := hc'.below hb.2 (by rw [add_block]; exact ha')
        have hw := hb.2.size
        have u1 : (a'.add (k * 7)).block < wr.heap.size := by rw [add_block]; omega
        have u2 : a'.block < wr.heap.size := by omega
        have e1 := H.out.2.2.2.2 _ (List.getElem_mem hlt)
        have e2 := H'.out.2.2.2.2 _ (List.getElem_mem hlt')
        have P2 := (hb.alloc (.cells #[.int .i64 xs[k].1.op, .int .i64 xs[k].1.reg, .int .i64 xs[k].1.ty, .int .i64 xs[k].1.n, .int .i64 xs[k].1.fl, .slice xs[k].1.ap xs[k].1.al xs[k].1.ac, .slice xs[k].1.tp xs[k].1.tl xs[k].1.tc] 46)).alloc (.cells #[.int .i64 ys[k].1.op, .int .i64 ys[k].1.reg, .int .i64 ys[k].1.ty, .int .i64 ys[k].1.n, .int .i64 ys[k].1.fl, .slice ys[k].1.ap ys[k].1.al ys[k].1.ac, .slice ys[k].1.tp ys[k].1.tl ys[k].1.tc] 46)
        have hcc := HC.out xs[k] ys[k] _ (past_lasts lasts_Ins e1 P2) (past_lasts lasts_Ins e2 P2)
        have HCC := Lib.hid hcc
        clear hc hc' e1 e2 hcc
        go_wp2_with fail
        refine HCC.out.mono ?_
        rintro e w2 ⟨bt, rfl, hbt, hb2⟩
        have P3 := P2.trans ⟨P2.size, hb2.mono P2.size⟩
        cases bt
        · go_wp2_with fail
          go_ret
          refine ⟨false, rfl, ?_, P3.2⟩
          simp only [Bool.false_eq_true, false_iff] at hbt ⊢
          intro e
          have e5 : (xs.map insD)[k]? = (ys.map insD)[k]? := by rw [e]
          rw [List.getElem?_map, List.getElem?_map, List.getElem?_eq_getElem hlt, List.getElem?_eq_getElem hlt'] at e5
          exact hbt (Option.some.inj e5)
        · have hq := hbt.1 rfl
          have HQ := Lib.hid hq
          clear hq hbt
          go_wp2_with fail
          exact ⟨⟨k + 1, by omega, by go_num, P3, Lib.hid (fun i h1 h2 h3 => by
            by_cases e : i = k
            · subst e; exact HQ.out
            · exact hE.out i h1 h2 (by omega))⟩, by simp [intOf]; omega⟩
      · go_wp2_with fail
        go_ret
        refine ⟨true, rfl, ?_, hb.2⟩
        simp only [true_iff]
        exact list_ext (by simpa using HL.out) (fun i h1 h2 => by simpa using hE.out i (by simpa using h1) (by simpa using h2) (Nat.lt_of_lt_of_le (by simpa using h1) (by omega)))
  · have hl2 : ((xs.length : Int) != (ys.length : Int)) = true := by simp; omega
    have HL := Lib.hid hl
    clear hl
    go_wp2_with fail
    go_ret
    exact ⟨false, rfl, by simp only [Bool.false_eq_true, false_iff]; intro e; have e2 := congrArg List.length e; rw [List.length_map, List.length_map] at e2; exact HL.out e2, Below.refl _ _⟩
set_option maxRecDepth 100000 in
set_option maxHeartbeats 2000000 in
theorem EqFunc_B (h : FuncId) (hen : ∀ (args : Array Value) (w : World), (callFunc h args).run Try.prog w = .ok (.enter h args) w) (hcall : ∀ x y w, BlkIn w.heap.size w x → BlkIn w.heap.size w y → Calls Try.prog h #[.agg (blkC x).toArray, .agg (blkC y).toArray] w (Tells (blkD x = blkD y) w))
    (W : World) (p p' : Option Addr) (n n' c c' : Nat) (xs ys : List LB) (hx : ListIn blkC BlkIn W.heap.size W p n c xs) (hy : ListIn blkC BlkIn W.heap.size W p' n' c' ys) :
    Calls Try.prog 26 #[.slice p n c, .slice p' n' c', .func (.func h) #[] #[]] W (Tells (xs.map blkD = ys.map blkD) W) := by
  obtain rfl : n = xs.length := hx.1
  obtain rfl : n' = ys.length := hy.1
  have k2 := hx.2.1
  have k3 := hx.2.2.1
  have k2' := hy.2.1
  have k3' := hy.2.2.1
  unfold maxLen at k3 k3'
  have H := Lib.hid hx
  have H' := Lib.hid hy
  have HC := Lib.hid hcall
  clear hx hy hcall
  go_enter Try.func26, Try.ntmps26
  by_cases hl : xs.length = ys.length
  · have hl2 : ((xs.length : Int) != (ys.length : Int)) = false := by simp [hl]
    have HL := Lib.hid hl
    clear hl
    go_wp2_with fail
    go_loopw [17] (fun t wr => ∃ k : Nat, k ≤ xs.length ∧ t = .int .i64 k ∧ Past W.heap.size W wr ∧ Hid (∀ i (h1 : i < xs.length) (h2 : i < ys.length), i < k → blkD xs[i] = blkD ys[i])) (fun t _ => xs.length - (intOf t).toNat)
    case atStart => exact ⟨0, Nat.zero_le _, rfl, Past.refl (Nat.le_refl _), Lib.hid (fun i _ _ h => absurd h (Nat.not_lt_zero i))⟩
    case round =>
      obtain ⟨k, hk, rfl, hb, hE⟩ := hrel
      by_cases hlt : k < xs.length
      · have hlt' : k < ys.length := by have := HL.out; omega
        obtain ⟨a, rfl, ha, hc⟩ := blk_row H.out k hlt
        obtain ⟨a', rfl, ha', hc'⟩ := blk_row H'.out k hlt'
        have f0 := (hb.2.cell (p := a.add k) (by rw [add_block]; exact ha)).trans hc
        have f0' := (hb.2.cell (p := a'.add k) (by rw [add_block]; exact ha')).trans hc'
        have hw := hb.2.size
        have u1 : (a'.add (k)).block < wr.heap.size := by rw [add_block]; omega
        have u2 : a'.block < wr.heap.size := by omega
        have e1 := H.out.2.2.2.2 _ (List.getElem_mem hlt)
        have e2 := H'.out.2.2.2.2 _ (List.getElem_mem hlt')
        have P2 := (hb.alloc (.cells #[.slice xs[k].p xs[k].n xs[k].k] 43)).alloc (.cells #[.slice ys[k].p ys[k].n ys[k].k] 43)
        have hcc := HC.out xs[k] ys[k] _ (past_lasts lasts_Blk e1 P2) (past_lasts lasts_Blk e2 P2)
        have HCC := Lib.hid hcc
        clear hc hc' e1 e2 hcc
        go_wp2_with fail
        refine HCC.out.mono ?_
        rintro e w2 ⟨bt, rfl, hbt, hb2⟩
        have P3 := P2.trans ⟨P2.size, hb2.mono P2.size⟩
        cases bt
        · go_wp2_with fail
          go_ret
          refine ⟨false, rfl, ?_, P3.2⟩
          simp only [Bool.false_eq_true, false_iff] at hbt ⊢
          intro e
          have e5 : (xs.map blkD)[k]? = (ys.map blkD)[k]? := by rw [e]
          rw [List.getElem?_map, List.getElem?_map, List.getElem?_eq_getElem hlt, List.getElem?_eq_getElem hlt'] at e5
          exact hbt (Option.some.inj e5)
        · have hq := hbt.1 rfl
          have HQ := Lib.hid hq
          clear hq hbt
          go_wp2_with fail
          exact ⟨⟨k + 1, by omega, by go_num, P3, Lib.hid (fun i h1 h2 h3 => by
            by_cases e : i = k
            · subst e; exact HQ.out
            · exact hE.out i h1 h2 (by omega))⟩, by simp [intOf]; omega⟩
      · go_wp2_with fail
        go_ret
        refine ⟨true, rfl, ?_, hb.2⟩
        simp only [true_iff]
        exact list_ext (by simpa using HL.out) (fun i h1 h2 => by simpa using hE.out i (by simpa using h1) (by simpa using h2) (Nat.lt_of_lt_of_le (by simpa using h1) (by omega)))
  · have hl2 : ((xs.length : Int) != (ys.length : Int)) = true := by simp; omega
    have HL := Lib.hid hl
    clear hl
    go_wp2_with fail
    go_ret
    exact ⟨false, rfl, by simp only [Bool.false_eq_true, false_iff]; intro e; have e2 := congrArg List.length e; rw [List.length_map, List.length_map] at e2; exact HL.out e2, Below.refl _ _⟩
set_option maxRecDepth 100000 in
set_option maxHeartbeats 1000000 in
theorem sameInstr_any (x y : LI) (W : World) (h : InsIn W.heap.size W x) (h' : InsIn W.heap.size W y) :
    Calls Try.prog 40 #[.agg (liC x).toArray, .agg (liC y).toArray] W (Tells (insD x = insD y) W) := by
  obtain ⟨⟨op, rg, ty, nn, fl, ap, al, ac, tp, tl, tc, args⟩, ts⟩ := x
  obtain ⟨⟨op', rg', ty', nn', fl', ap', al', ac', tp', tl', tc', args'⟩, ts'⟩ := y
  have H := Lib.hid h
  have H' := Lib.hid h'
  clear h h'
  show Calls Try.prog 40 #[.agg #[.int .i64 op, .int .i64 rg, .int .i64 ty, .int .i64 nn, .int .i64 fl, .slice ap al ac, .slice tp tl tc], .agg #[.int .i64 op', .int .i64 rg', .int .i64 ty', .int .i64 nn', .int .i64 fl', .slice ap' al' ac', .slice tp' tl' tc']] W _
  have hP := (Past.refl (Nat.le_refl W.heap.size)).alloc (.cells #[.int .i64 op, .int .i64 rg, .int .i64 ty, .int .i64 nn, .int .i64 fl, .slice ap al ac, .slice tp tl tc] 46)
  have A1 : Box W.heap.size [.int .i64 op, .int .i64 rg, .int .i64 ty, .int .i64 nn, .int .i64 fl, .slice ap al ac, .slice tp tl tc] (W.alloc (.cells #[.int .i64 op, .int .i64 rg, .int .i64 ty, .int .i64 nn, .int .i64 fl, .slice ap al ac, .slice tp tl tc] 46)) := Box.new W rfl _ _
  have z1 : (W.alloc (.cells #[.int .i64 op, .int .i64 rg, .int .i64 ty, .int .i64 nn, .int .i64 fl, .slice ap al ac, .slice tp tl tc] 46)).heap.size = W.heap.size + 1 := by simp
  go_enter Try.func40, Try.ntmps40
  go_upto_region 1 with fail
  generalize (W.alloc (.cells #[.int .i64 op, .int .i64 rg, .int .i64 ty, .int .i64 nn, .int .i64 fl, .slice ap al ac, .slice tp tl tc] 46)) = w1 at *
  have hP2 := hP.alloc (.cells #[.int .i64 op', .int .i64 rg', .int .i64 ty', .int .i64 nn', .int .i64 fl', .slice ap' al' ac', .slice tp' tl' tc'] 46)
  have A2 := A1.alloc (.cells #[.int .i64 op', .int .i64 rg', .int .i64 ty', .int .i64 nn', .int .i64 fl', .slice ap' al' ac', .slice tp' tl' tc'] 46)
  have B2 : Box (W.heap.size + 1) [.int .i64 op', .int .i64 rg', .int .i64 ty', .int .i64 nn', .int .i64 fl', .slice ap' al' ac', .slice tp' tl' tc'] (w1.alloc (.cells #[.int .i64 op', .int .i64 rg', .int .i64 ty', .int .i64 nn', .int .i64 fl', .slice ap' al' ac', .slice tp' tl' tc'] 46)) := Box.new w1 (by omega) _ _
  generalize (w1.alloc (.cells #[.int .i64 op', .int .i64 rg', .int .i64 ty', .int .i64 nn', .int .i64 fl', .slice ap' al' ac', .slice tp' tl' tc'] 46)) = w2 at *
  have a0 := A2.get 0 _ rfl
  have a1 := A2.get 1 _ rfl
  have a2 := A2.get 2 _ rfl
  have a3 := A2.get 3 _ rfl
  have a4 := A2.get 4 _ rfl
  have a5 := A2.get 5 _ rfl
  have a6 := A2.get 6 _ rfl
  have b0 := B2.get 0 _ rfl
  have b1 := B2.get 1 _ rfl
  have b2 := B2.get 2 _ rfl
  have b3 := B2.get 3 _ rfl
  have b4 := B2.get 4 _ rfl
  have b5 := B2.get 5 _ rfl
  have b6 := B2.get 6 _ rfl
  clear A1 hP z1
  by_cases e0 : op = op'
  · have g0 : (op == op') = true := by simp [e0]
    have E0 := Lib.hid e0
    clear e0
    by_cases e1 : rg = rg'
    · have g1 : (rg == rg') = true := by simp [e1]
      have E1 := Lib.hid e1
      clear e1
      by_cases e2 : ty = ty'
      · have g2 : (ty == ty') = true := by simp [e2]
        have E2 := Lib.hid e2
        clear e2
        by_cases e3 : nn = nn'
        · have g3 : (nn == nn') = true := by simp [e3]
          have E3 := Lib.hid e3
          clear e3
          by_cases e4 : fl = fl'
          · have g4 : (fl == fl') = true := by simp [e4]
            have E4 := Lib.hid e4
            clear e4
            go_wp2_with fail
            refine (EqVals_any w2 ap ap' al al' ac ac' args args' (H.out.1.lasts lasts_NoMem hP2.2 hP2.2.size) (H'.out.1.lasts lasts_NoMem hP2.2 hP2.2.size)).mono ?_
            rintro e w3 ⟨bt, rfl, hbt, hb3⟩
            have HBT := Lib.hid hbt
            clear hbt
            have P3 := hP2.trans ⟨hP2.size, hb3.mono hP2.size⟩
            have A3 := A2.later hb3
            have B3 := B2.later hb3
            clear a0 a1 a2 a3 a4 a5 a6 b0 b1 b2 b3 b4 b5 b6
            have a6 := A3.get 6 _ rfl
            have b6 := B3.get 6 _ rfl
            cases bt
            · go_wp2_with fail
              go_ret
              exact ⟨false, rfl, by simp only [Bool.false_eq_true, false_iff]; exact fun e => Bool.noConfusion (HBT.out.2 (congrArg PIns.args e)), P3.2⟩
            · have hA := Lib.hid (HBT.out.1 rfl)
              clear HBT
              go_wp2_with fail
              refine (EqInts_any w3 tp tp' tl tl' tc tc' ts ts' (H.out.2.lasts lasts_NoMem P3.2 P3.2.size) (H'.out.2.lasts lasts_NoMem P3.2 P3.2.size)).mono ?_
              rintro e w4 ⟨bt, rfl, hbt, hb4⟩
              have HBT := Lib.hid hbt
              clear hbt
              go_wp2_with fail
              go_ret
              refine ⟨bt, rfl, HBT.out.trans ?_, P3.2.trans (hb4.mono P3.size)⟩
              constructor
              · intro e
                show (⟨op, rg, ty, nn, fl, args, ts⟩ : PIns) = ⟨op', rg', ty', nn', fl', args', ts'⟩
                rw [E0.out, E1.out, E2.out, E3.out, E4.out, hA.out, e]
              · exact fun e => congrArg PIns.tg e
          · have g4 : (fl == fl') = false := by simpa using e4
            have E4 := Lib.hid e4
            clear e4
            go_wp2_with fail
            go_ret
            exact ⟨false, rfl, by simp only [Bool.false_eq_true, false_iff]; intro e; exact E4.out (congrArg (fun z : PIns => z.fl) e), hP2.2⟩
        · have g3 : (nn == nn') = false := by simpa using e3
          have E3 := Lib.hid e3
          clear e3
          go_wp2_with fail
          go_ret
          exact ⟨false, rfl, by simp only [Bool.false_eq_true, false_iff]; intro e; exact E3.out (congrArg (fun z : PIns => z.n) e), hP2.2⟩
      · have g2 : (ty == ty') = false := by simpa using e2
        have E2 := Lib.hid e2
        clear e2
        go_wp2_with fail
        go_ret
        exact ⟨false, rfl, by simp only [Bool.false_eq_true, false_iff]; intro e; exact E2.out (congrArg (fun z : PIns => z.ty) e), hP2.2⟩
    · have g1 : (rg == rg') = false := by simpa using e1
      have E1 := Lib.hid e1
      clear e1
      go_wp2_with fail
      go_ret
      exact ⟨false, rfl, by simp only [Bool.false_eq_true, false_iff]; intro e; exact E1.out (congrArg (fun z : PIns => z.reg) e), hP2.2⟩
  · have g0 : (op == op') = false := by simpa using e0
    have E0 := Lib.hid e0
    clear e0
    go_wp2_with fail
    go_ret
    exact ⟨false, rfl, by simp only [Bool.false_eq_true, false_iff]; intro e; exact E0.out (congrArg (fun z : PIns => z.op) e), hP2.2⟩
theorem enters_si : ∀ (args : Array Value) (w : World), (callFunc 40 args).run Try.prog w = .ok (.enter 40 args) w := fun _ _ => rfl
theorem enters_sb : ∀ (args : Array Value) (w : World), (callFunc 27 args).run Try.prog w = .ok (.enter 27 args) w := fun _ _ => rfl
set_option maxRecDepth 100000 in
set_option maxHeartbeats 1000000 in
theorem sameBlock_any (x y : LB) (W : World) (h : BlkIn W.heap.size W x) (h' : BlkIn W.heap.size W y) :
    Calls Try.prog 27 #[.agg (blkC x).toArray, .agg (blkC y).toArray] W (Tells (blkD x = blkD y) W) := by
  have H := Lib.hid h
  have H' := Lib.hid h'
  clear h h'
  show Calls Try.prog 27 #[.agg #[.slice x.p x.n x.k], .agg #[.slice y.p y.n y.k]] W _
  have P2 := ((Past.refl (Nat.le_refl W.heap.size)).alloc (.cells #[.slice x.p x.n x.k] 43)).alloc (.cells #[.slice y.p y.n y.k] 43)
  have hc := EqFunc_C 40 enters_si sameInstr_any _ x.p y.p x.n y.n x.k y.k x.code y.code (ListIn.lasts lasts_Ins H.out P2.2 P2.2.size) (ListIn.lasts lasts_Ins H'.out P2.2 P2.2.size)
  have HC := Lib.hid hc
  clear hc
  go_enter Try.func27, Try.ntmps27
  go_wp2_with fail
  refine HC.out.mono ?_
  rintro e w3 ⟨bt, rfl, hbt, hb3⟩
  have HBT := Lib.hid hbt
  clear hbt
  go_wp2_with fail
  go_ret
  exact ⟨bt, rfl, HBT.out, P2.2.trans (hb3.mono P2.size)⟩
set_option maxRecDepth 100000 in
set_option maxHeartbeats 1000000 in
theorem SameFunc_any (x y : LFn) (W : World) (h : FnIn W.heap.size W x) (h' : FnIn W.heap.size W y) :
    Calls Try.prog 14 #[.agg (fnC x).toArray, .agg (fnC y).toArray] W (Tells (fnD x = fnD y) W) := by
  obtain ⟨nm, pp, pn, pc, ps, rt, bp, bn, bc, bs⟩ := x
  obtain ⟨nm', pp', pn', pc', ps', rt', bp', bn', bc', bs'⟩ := y
  have H := Lib.hid h
  have H' := Lib.hid h'
  clear h h'
  show Calls Try.prog 14 #[.agg #[.string nm, .slice pp pn pc, .int .i64 rt, .slice bp bn bc], .agg #[.string nm', .slice pp' pn' pc', .int .i64 rt', .slice bp' bn' bc']] W _
  have hP := (Past.refl (Nat.le_refl W.heap.size)).alloc (.cells #[.string nm, .slice pp pn pc, .int .i64 rt, .slice bp bn bc] 25)
  have A1 : Box W.heap.size [.string nm, .slice pp pn pc, .int .i64 rt, .slice bp bn bc] (W.alloc (.cells #[.string nm, .slice pp pn pc, .int .i64 rt, .slice bp bn bc] 25)) := Box.new W rfl _ _
  have z1 : (W.alloc (.cells #[.string nm, .slice pp pn pc, .int .i64 rt, .slice bp bn bc] 25)).heap.size = W.heap.size + 1 := by simp
  go_enter Try.func14, Try.ntmps14
  go_upto_region 1 with fail
  generalize (W.alloc (.cells #[.string nm, .slice pp pn pc, .int .i64 rt, .slice bp bn bc] 25)) = w1 at *
  have hP2 := hP.alloc (.cells #[.string nm', .slice pp' pn' pc', .int .i64 rt', .slice bp' bn' bc'] 25)
  have A2 := A1.alloc (.cells #[.string nm', .slice pp' pn' pc', .int .i64 rt', .slice bp' bn' bc'] 25)
  have B2 : Box (W.heap.size + 1) [.string nm', .slice pp' pn' pc', .int .i64 rt', .slice bp' bn' bc'] (w1.alloc (.cells #[.string nm', .slice pp' pn' pc', .int .i64 rt', .slice bp' bn' bc'] 25)) := Box.new w1 (by omega) _ _
  generalize (w1.alloc (.cells #[.string nm', .slice pp' pn' pc', .int .i64 rt', .slice bp' bn' bc'] 25)) = w2 at *
  have a0 := A2.get 0 _ rfl
  have a1 := A2.get 1 _ rfl
  have a2 := A2.get 2 _ rfl
  have a3 := A2.get 3 _ rfl
  have b0 := B2.get 0 _ rfl
  have b1 := B2.get 1 _ rfl
  have b2 := B2.get 2 _ rfl
  have b3 := B2.get 3 _ rfl
  clear A1 hP z1
  by_cases e0 : nm = nm'
  · subst e0
    by_cases e1 : rt = rt'
    · have g1 : (rt == rt') = true := by simp [e1]
      have E1 := Lib.hid e1
      clear e1
      go_wp2_with fail
      refine (EqInts_any w2 pp pp' pn pn' pc pc' ps ps' (H.out.1.lasts lasts_NoMem hP2.2 hP2.2.size) (H'.out.1.lasts lasts_NoMem hP2.2 hP2.2.size)).mono ?_
      rintro e w3 ⟨bt, rfl, hbt, hb3⟩
      have HBT := Lib.hid hbt
      clear hbt
      have P3 := hP2.trans ⟨hP2.size, hb3.mono hP2.size⟩
      have A3 := A2.later hb3
      have B3 := B2.later hb3
      clear a0 a1 a2 a3 b0 b1 b2 b3
      have a3 := A3.get 3 _ rfl
      have b3 := B3.get 3 _ rfl
      cases bt
      · go_wp2_with fail
        go_ret
        exact ⟨false, rfl, by simp only [Bool.false_eq_true, false_iff]; exact fun e => Bool.noConfusion (HBT.out.2 (congrArg PFn.ps e)), P3.2⟩
      · have hA := Lib.hid (HBT.out.1 rfl)
        clear HBT
        go_wp2_with fail
        refine (EqFunc_B 27 enters_sb sameBlock_any w3 bp bp' bn bn' bc bc' bs bs' (H.out.2.lasts lasts_Blk P3.2 P3.2.size) (H'.out.2.lasts lasts_Blk P3.2 P3.2.size)).mono ?_
        rintro e w4 ⟨bt, rfl, hbt, hb4⟩
        have HBT := Lib.hid hbt
        clear hbt
        go_wp2_with fail
        go_ret
        refine ⟨bt, rfl, HBT.out.trans ?_, P3.2.trans (hb4.mono P3.size)⟩
        constructor
        · intro e
          show (⟨nm, ps, rt, bs.map blkD⟩ : PFn) = ⟨nm, ps', rt', bs'.map blkD⟩
          rw [E1.out, hA.out, e]
        · exact fun e => congrArg PFn.bs e
    · have g1 : (rt == rt') = false := by simpa using e1
      have E1 := Lib.hid e1
      clear e1
      go_wp2_with fail
      go_ret
      exact ⟨false, rfl, by simp only [Bool.false_eq_true, false_iff]; exact fun e => E1.out (congrArg PFn.rt e), hP2.2⟩
  · have E0 := Lib.hid e0
    have g0 : ¬ nm.toList = nm'.toList := fun e => e0 (str_inj e)
    clear e0
    go_wp2_with fail
    go_ret
    exact ⟨false, rfl, by simp only [Bool.false_eq_true, false_iff]; exact fun e => E0.out (congrArg PFn.nm e), hP2.2⟩
/-- Of what was there only the blocks from lo on, ahead of hi, may have turned. -/
structure Out (lo hi : Nat) (w w' : World) : Prop where
  os : w'.os = w.os
  tape : w'.tape = w.tape
  output : w'.output = w.output
  size : w.heap.size ≤ w'.heap.size
  block : ∀ k, k < w.heap.size → (k < lo ∨ hi ≤ k) → w'.heap[k]? = w.heap[k]?
theorem Out.refl (lo hi : Nat) (w : World) : Out lo hi w w := ⟨rfl, rfl, rfl, Nat.le_refl _, fun _ _ _ => rfl⟩
theorem Out.trans {lo hi : Nat} {a b c : World} (h : Out lo hi a b) (k : Out lo hi b c) : Out lo hi a c :=
  ⟨k.os.trans h.os, k.tape.trans h.tape, k.output.trans h.output, Nat.le_trans h.size k.size, fun i hi ho => (k.block i (Nat.lt_of_lt_of_le hi h.size) ho).trans (h.block i hi ho)⟩
theorem Out.mono {lo hi lo' hi' : Nat} {w w' : World} (h : Out lo hi w w') (hl : lo' ≤ lo) (hh : hi ≤ hi') : Out lo' hi' w w' := ⟨h.os, h.tape, h.output, h.size, fun k hk ho => h.block k hk (by omega)⟩
theorem Out.grown {lo hi : Nat} {w w' : World} {row : Option Nat} (h : w.grownBy w' row) (hr : ∀ g, row = some g → lo ≤ g ∧ g < hi) : Out lo hi w w' := ⟨h.os, h.tape, h.output, h.size, fun k hk ho => h.block k hk (fun e => by have := hr k e.symm; omega)⟩
theorem Out.alloc {lo hi : Nat} {w w' : World} (h : Out lo hi w w') (o : Obj) : Out lo hi w (w'.alloc o) := h.trans (Out.grown (World.grownBy_alloc w' o none) (fun g e => by cases e))
theorem Out.box {lo hi g : Nat} {cs : List Value} {w w' : World} (h : Box g cs w) (ho : Out lo hi w w') (hg : g < lo ∨ hi ≤ g) : Box g cs w' :=
  ⟨Nat.lt_of_lt_of_le h.1 ho.size, fun i => (World.frozen?_of_block (w := w) (ho.block g h.1 hg)).trans (h.2.1 i), fun i u e => (World.cell?_of_block (w := w) (ho.block g h.1 hg)).trans (h.2.2 i u e)⟩
theorem Out.stay {lo hi a b : Nat} {w w' : World} (h : Out lo hi w w') (hb : b ≤ w.heap.size) (hab : b ≤ lo ∨ hi ≤ a) : Stay a b w w' := fun k h1 h2 => h.block k (by omega) (by omega)
theorem Out.below {lo hi B : Nat} {w w' : World} (h : Out lo hi w w') (hB : B ≤ lo) (hw : B ≤ w.heap.size) : Below B w w' := ⟨h.os, h.tape, h.output, h.size, fun k hk => h.block k (by omega) (by omega)⟩
theorem ListOwn.put {α : Type} {ty m : Nat} {cel : α → List Value} {Q : Nat → Nat → World → α → Prop} (hQ : Local Q) (hm : 0 < m) (hc : ∀ x, (cel x).length = m) {a b g : Nat} {w : World} {n c : Nat} {xs : List α} (h : ListOwn ty m cel Q a b w (some ⟨g, 0, none⟩) n c xs) (i : Nat) (hi : i < xs.length) (y : α) (hy : ∀ a' b' w', a' ≤ b' → Q a' b' w' y) :
    ListOwn ty m cel Q a b (w.setCells g (i * m) (cel y)) (some ⟨g, 0, none⟩) n c (xs.set i y) ∧ a ≤ g ∧ g < b := by
  obtain ⟨h1, h2, h3, h4⟩ := h
  obtain ⟨a', b', k1, k2, k3, k4, k5, k6⟩ := h4.at hQ i hi
  have hset := setCells_own (cel y) (i * m) h2
  rw [sets_flat cel m hm hc xs i hi y] at hset
  exact ⟨⟨by rw [List.length_set]; exact h1, hset, h3, k6 _ y (fun k _ _ e _ => setCells_heap g (cel y) (i * m) w k (fun e2 => e (by rw [e2]; rfl))) (hy _ _ _ k2)⟩, (h2.lt g rfl).1, h3 g rfl⟩
theorem ListOwn.some_row {α : Type} {ty m : Nat} {cel : α → List Value} {Q : Nat → Nat → World → α → Prop} {a b : Nat} {w : World} {p : Option Addr} {n c : Nat} {xs : List α} (h : ListOwn ty m cel Q a b w p n c xs) (hp : 0 < xs.length) : ∃ g, p = some ⟨g, 0, none⟩ := by
  rcases h.2.1.2 with ⟨_, h0⟩ | ⟨g, cap, cur, e, _⟩
  · have := h.1; omega
  · injection e with e1 e2 e3; exact ⟨g, e1⟩
theorem ListOwn.caps {α : Type} {ty m : Nat} {cel : α → List Value} {Q : Nat → Nat → World → α → Prop} {a b : Nat} {w : World} {p : Option Addr} {n c : Nat} {xs : List α} (h : ListOwn ty m cel Q a b w p n c xs) : xs.length ≤ c ∧ c ≤ 9223372036854775807 := by
  have h1 := h.1
  rcases h.2.1.2 with ⟨e, h0⟩ | ⟨g, cap, cur, e, _, _, k1, k2, _⟩
  · injection e with e1 e2 e3; omega
  · injection e with e1 e2 e3; unfold maxLen at k2; omega
theorem out_setCells {lo hi g : Nat} (h1 : lo ≤ g) (h2 : g < hi) (cs : List Value) (o : Nat) (w : World) : Out lo hi w (w.setCells g o cs) := Out.grown (grown_setCells cs o (World.grownBy.refl w (some g))) (fun k e => by cases e; exact ⟨h1, h2⟩)
def badI : LI := (⟨-7, 0, 0, 0, 0, none, 0, 0, none, 0, 0, []⟩, [])
def badB : LB := ⟨none, 0, 0, []⟩
def badC : List Value := [.int .i64 (-7), .int .i64 0, .int .i64 0, .int .i64 0, .int .i64 0, .slice none 0 0, .slice none 0 0]
theorem badC_eq : liC badI = badC := rfl
theorem badAll : badC.toArray.all (·.oneCell') = true := by simp [badC, Value.oneCell']
theorem own_nil {α : Type} {ty m : Nat} {cel : α → List Value} {Q : Nat → Nat → World → α → Prop} {a b : Nat} (w : World) (h : a ≤ b) : ListOwn ty m cel Q a b w none 0 0 [] := ⟨rfl, World.ownsRow_nil w a ty m, fun g e => by simp [Value.ownBlock] at e, h⟩
theorem badI_own (a b : Nat) (w : World) (h : a ≤ b) : InsOwn a b w badI := ⟨own_nil w h, own_nil w h⟩
theorem badB_own (a b : Nat) (w : World) (h : a ≤ b) : BlkOwn a b w badB := own_nil w h
set_option maxRecDepth 100000 in
set_option maxHeartbeats 8000000 in
theorem Spoil_own (f : LFn) (lo hi : Nat) (W : World) (hh : hi ≤ W.heap.size) (h : FnOwn lo hi W f) :
    Calls Try.prog 13 #[.agg (fnC f).toArray] W fun e w' => e = .returned (.tuple #[]) ∧ Out lo hi W w' := by
  have HIV : Hid ((Try.prog.info? 49).map (·.size) = some 3) := Lib.hid (by kernel_rfl)
  have HIC : Hid ((Try.prog.info? 46).map (·.size) = some 7) := Lib.hid (by kernel_rfl)
  obtain ⟨nm, pp, pn, pc, ps, rt, bp, bn, bc, bs⟩ := f
  obtain ⟨d, h1, h2⟩ := h
  simp only at h1 h2
  obtain rfl : pn = ps.length := h1.1
  obtain rfl : bn = bs.length := h2.1
  obtain ⟨kp1, kp2⟩ := h1.caps
  obtain ⟨kb1, kb2⟩ := h2.caps
  have l1 := h1.le
  have l2 := h2.le
  show Calls Try.prog 13 #[.agg #[.string nm, .slice pp ps.length pc, .int .i64 rt, .slice bp bs.length bc]] W _
  have F1 : Box W.heap.size [.string nm, .slice pp ps.length pc, .int .i64 rt, .slice bp bs.length bc] (W.alloc (.cells #[.string nm, .slice pp ps.length pc, .int .i64 rt, .slice bp bs.length bc] 25)) := Box.new W rfl _ _
  have O1 : Out lo hi W (W.alloc (.cells #[.string nm, .slice pp ps.length pc, .int .i64 rt, .slice bp bs.length bc] 25)) := (Out.refl _ _ _).alloc _
  have o1 := h1.stay local_NoOwn (((Past.refl (Nat.le_refl W.heap.size)).alloc (.cells #[.string nm, .slice pp ps.length pc, .int .i64 rt, .slice bp bs.length bc] 25)).stay (by omega))
  have o2 := h2.stay local_Blk (((Past.refl (Nat.le_refl W.heap.size)).alloc (.cells #[.string nm, .slice pp ps.length pc, .int .i64 rt, .slice bp bs.length bc] 25)).stay (by omega))
  have z1 : W.heap.size < (W.alloc (.cells #[.string nm, .slice pp ps.length pc, .int .i64 rt, .slice bp bs.length bc] 25)).heap.size := by simp
  have a1 := F1.get 1 _ rfl
  go_enter Try.func13, Try.ntmps13
  go_wp2_with fail
  generalize (W.alloc (.cells #[.string nm, .slice pp ps.length pc, .int .i64 rt, .slice bp bs.length bc] 25)) = w1 at *
  have HO2 := Lib.hid o2
  have HI := Lib.hid (And.intro F1 (And.intro O1 (And.intro o1 z1)))
  have HBS : Hid (∀ w, Out lo d w1 w → ListOwn 43 1 blkC BlkOwn d hi w bp bs.length bc bs) := Lib.hid (fun w ho => HO2.out.stay local_Blk (ho.stay (by omega) (.inr (Nat.le_refl _))))
  clear F1 O1 o1 o2 h1 h2 a1
  go_loopw [11] (fun t wr => ∃ (i : Nat) (qs : List Int), i ≤ ps.length ∧ t = .int .i64 i ∧ qs.length = ps.length ∧ Out lo d w1 wr ∧ ListOwn 3 1 intC NoOwn lo d wr pp ps.length pc qs) (fun t _ => ps.length - (intOf t).toNat)
  case atStart => exact ⟨0, ps, Nat.zero_le _, rfl, rfl, Out.refl _ _ _, HI.out.2.2.1⟩
  case round =>
    obtain ⟨i, qs, hi2, rfl, hql, hO, hP⟩ := hrel
    have F2 := Out.box HI.out.1 hO (.inr (by omega))
    have a1 := F2.get 1 _ rfl
    by_cases hlt : i < ps.length
    · obtain ⟨g, rfl⟩ := hP.some_row (by omega)
      have hil : i < qs.length := by omega
      have hr := own_range (f := intC) (m := 1) (fun _ => rfl) hP.2.1 i hil
      have hth := own_there (f := intC) (m := 1) (fun _ => rfl) hP.2.1 i hil
      have c0 := hr 0 _ rfl
      have fz := (hth 0 (by decide)).2
      simp only [Nat.mul_one, Nat.add_zero] at c0 fz
      obtain ⟨hput, hg1, hg2⟩ := hP.put (m := 1) local_NoOwn (by decide) (fun _ => rfl) i hil (-9) (fun _ _ _ _ => trivial)
      rw [Nat.mul_one] at hput
      have ho2 := out_setCells hg1 hg2 (intC (-9)) i wr
      have HP := Lib.hid (And.intro hput ho2)
      clear hr hth hP hput ho2
      go_wp2_with fail
      exact ⟨⟨i + 1, qs.set i (-9), by omega, by go_num, by rw [List.length_set]; exact hql, hO.trans HP.out.2, HP.out.1⟩, by simp [intOf]; omega⟩
    · have hB := HBS.out wr hO
      have HB := Lib.hid hB
      have HOW := Lib.hid (HI.out.2.1.trans (hO.mono (Nat.le_refl _) l2))
      have a3 := F2.get 3 _ rfl
      have hsz := hO.size
      have hz := HI.out.2.2.2
      have F2' := Lib.hid F2
      clear hB hP F2
      go_wp2_with fail
      clear a1 a3
      generalize wr = w2 at *
      go_loopw [22] (fun t wr => ∃ (i : Nat) (cs : List LB), i ≤ bs.length ∧ t = .int .i64 i ∧ cs.length = bs.length ∧ Hid (∀ j, i ≤ j → cs[j]? = bs[j]?) ∧ Out d hi w2 wr ∧ ListOwn 43 1 blkC BlkOwn d hi wr bp bs.length bc cs) (fun t _ => bs.length - (intOf t).toNat)
      case atStart => exact ⟨0, bs, Nat.zero_le _, rfl, rfl, Lib.hid (fun _ _ => rfl), Out.refl _ _ _, HB.out⟩
      case round =>
        obtain ⟨i, cs, hi3, rfl, hcl, hsame, hO3, hB3⟩ := hrel
        have F3 := Out.box F2'.out hO3 (.inr (by omega))
        have a3 := F3.get 3 _ rfl
        have hz3 := hO3.size
        by_cases hlt3 : i < bs.length
        · have hcs : cs[i]? = some bs[i] := by rw [hsame.out i (Nat.le_refl _), List.getElem?_eq_getElem hlt3]
          have hic : i < cs.length := by omega
          have hcs2 : cs[i] = bs[i] := by rw [List.getElem?_eq_getElem hic] at hcs; exact Option.some.inj hcs
          have hd1 : d ≤ wr.heap.size := by omega
          obtain ⟨gb, rfl⟩ := hB3.some_row (by omega)
          have hc := own_range (f := blkC) (m := 1) (fun _ => rfl) hB3.2.1 i hic 0 _ rfl
          simp only [Nat.mul_one, Nat.add_zero] at hc
          obtain ⟨ca, cb, i1, i2, i3, hq, up⟩ := hB3.upd local_Blk i hic
          rw [hcs2] at hq hc up
          unfold BlkOwn at hq
          have hq1 := hq.1
          obtain ⟨q2, q3⟩ := hq.caps
          rw [hq1] at hc
          have HQ := Lib.hid hq
          have HUP := Lib.hid up
          have HSAME := Lib.hid hsame
          have HN := Lib.hid hq1
          have HC := Lib.hid hc
          have HB3 := Lib.hid hB3
          have HCS2 := Lib.hid hcs2
          clear hq up hq1 hcs hB3 hcs2
          obtain ⟨PP, hPP⟩ : ∃ PP, bs[i].p = PP := ⟨_, rfl⟩
          rw [hPP] at HQ HC hc
          have HPP := Lib.hid hPP
          clear hPP
          go_wp2_with fail
          clear a3 hc
          generalize wr = w3 at *
          go_loopw [32] (fun t wr => ∃ (k : Nat) (L : List LI), k ≤ bs[i].code.length ∧ t = .int .i64 k ∧ L.length = bs[i].code.length ∧ Hid (∀ j, k ≤ j → L[j]? = bs[i].code[j]?) ∧ Out ca cb w3 wr ∧ ListOwn 46 7 liC InsOwn ca cb wr PP bs[i].code.length bs[i].k L) (fun t _ => bs[i].code.length - (intOf t).toNat)
          case atStart => exact ⟨0, bs[i].code, Nat.zero_le _, rfl, rfl, Lib.hid (fun _ _ => rfl), Out.refl _ _ _, by rw [← HN.out]; exact HQ.out⟩
          case round =>
            obtain ⟨k, L, hk, rfl, hLl, hLs, hO4, hC4⟩ := hrel
            have F4 := Out.box F3 hO4 (.inr (by omega))
            have a3 := F4.get 3 _ rfl
            have hz4 := hO4.size
            have hBC : ∀ (w : World) (M : List LI), Out ca cb w3 w → ListOwn 46 7 liC InsOwn ca cb w PP bs[i].code.length bs[i].k M → ListOwn 43 1 blkC BlkOwn d hi w (some ⟨gb, 0, none⟩) bs.length bc (cs.set i ⟨PP, bs[i].code.length, bs[i].k, M⟩) ∧ w.cell? ⟨gb, i, none⟩ = some (.slice PP bs[i].code.length bs[i].k) := fun w M ho hm => by
              have h1 := HUP.out w ⟨PP, bs[i].code.length, bs[i].k, M⟩ (by unfold blkC; rw [HN.out, HPP.out]) (fun m h1 h2 h3 => ho.block m (by omega) h3) hm
              refine ⟨h1, ?_⟩
              have h2 := own_range (f := blkC) (m := 1) (fun _ => rfl) h1.2.1 i (by rw [List.length_set]; exact hic) 0 _ rfl
              simp only [Nat.mul_one, Nat.add_zero, List.getElem_set_self] at h2
              exact h2
            have HBC := Lib.hid hBC
            clear hBC
            have c1 := (HBC.out wr L hO4 hC4).2
            by_cases hkl : k < bs[i].code.length
            · have hkL : k < L.length := by omega
              have hLk : L[k] = bs[i].code[k] := by
                have h := hLs.out k (Nat.le_refl _)
                rw [List.getElem?_eq_getElem hkL, List.getElem?_eq_getElem hkl] at h
                exact Option.some.inj h
              obtain ⟨gc, rfl⟩ := hC4.some_row (by omega)
              obtain ⟨a2, c2, j1, j2, j3, hI, upI⟩ := hC4.upd local_Ins k hkL
              have hr := own_range (f := liC) (m := 7) (fun _ => rfl) hC4.2.1 k hkL
              rw [hLk] at hr hI upI
              obtain ⟨x, ex⟩ : ∃ x, bs[i].code[k] = x := ⟨_, rfl⟩
              rw [ex] at hr hI upI
              obtain ⟨⟨op, rg, ty, nn, fl, ap, al, ac, tp, tl, tc, args⟩, ts0⟩ := x
              try simp only at hr hI upI
              obtain ⟨hA, hT⟩ := hI
              obtain rfl : al = args.length := hA.1
              obtain rfl : tl = ts0.length := hT.1
              try simp only at hA hT
              obtain ⟨ka1, ka2⟩ := hA.caps
              obtain ⟨kt1, kt2⟩ := hT.caps
              have y0 := hr 0 _ rfl
              have y1 := hr 1 _ rfl
              have y2 := hr 2 _ rfl
              have y3 := hr 3 _ rfl
              have y4 := hr 4 _ rfl
              have y5 := hr 5 _ rfl
              have y6 := hr 6 _ rfl
              simp only [Nat.add_zero] at y0
              have I1 : Box wr.heap.size [.int .i64 op, .int .i64 rg, .int .i64 ty, .int .i64 nn, .int .i64 fl, .slice ap args.length ac, .slice tp ts0.length tc] (wr.alloc (.cells #[.int .i64 op, .int .i64 rg, .int .i64 ty, .int .i64 nn, .int .i64 fl, .slice ap args.length ac, .slice tp ts0.length tc] 46)) := Box.new wr rfl _ _
              have st1 : ∀ b, b ≤ wr.heap.size → ∀ a, Stay a b wr (wr.alloc (.cells #[.int .i64 op, .int .i64 rg, .int .i64 ty, .int .i64 nn, .int .i64 fl, .slice ap args.length ac, .slice tp ts0.length tc] 46)) := fun b hb a => ((Past.refl (Nat.le_refl wr.heap.size)).alloc _).stay hb
              have A1 := hA.stay local_NoOwn (st1 c2 (by omega) a2)
              have T1 := hT.stay local_NoOwn (st1 c2 (by omega) a2)
              have O5 : Out ca cb w3 (wr.alloc (.cells #[.int .i64 op, .int .i64 rg, .int .i64 ty, .int .i64 nn, .int .i64 fl, .slice ap args.length ac, .slice tp ts0.length tc] 46)) := hO4.alloc _
              have z5 : wr.heap.size < (wr.alloc (.cells #[.int .i64 op, .int .i64 rg, .int .i64 ty, .int .i64 nn, .int .i64 fl, .slice ap args.length ac, .slice tp ts0.length tc] 46)).heap.size := by simp
              have C5 := hC4.stay local_Ins (st1 cb (by omega) ca)
              have i5 := I1.get 5 _ rfl
              have HUPI := Lib.hid upI
              have HC4 := Lib.hid hC4
              have HF4 := Lib.hid F4
              have HLK := Lib.hid hLk
              have HXX := Lib.hid ex
              have HAT := Lib.hid (And.intro A1 (And.intro T1 (And.intro I1 (And.intro O5 C5))))
              clear hr hA hT upI hC4 F4 hLk ex A1 T1 I1 O5 C5 st1
              go_wp2_with fail
              clear y0 y1 y2 y3 y4 y5 y6 a3 c1 i5
              have hcb : cb ≤ wr.heap.size := by omega
              generalize hw4 : wr.alloc (.cells #[.int .i64 op, .int .i64 rg, .int .i64 ty, .int .i64 nn, .int .i64 fl, .slice ap args.length ac, .slice tp ts0.length tc] 46) = w4 at *
              have HWW := Lib.hid hw4
              clear hw4
              generalize wr = w3k at *
              go_loopw [47] (fun t wr => ∃ (j : Nat) (es : List Arg), j ≤ args.length ∧ t = .int .i64 j ∧ es.length = args.length ∧ w4.grownBy wr (Value.slice ap args.length ac).ownBlock ∧ ListOwn 49 3 argC NoOwn a2 c2 wr ap args.length ac es) (fun t _ => args.length - (intOf t).toNat)
              case atStart => exact ⟨0, args, Nat.zero_le _, rfl, rfl, World.grownBy.refl _ _, HAT.out.1⟩
              case round =>
                obtain ⟨j, es, hj, rfl, hasl, hg, hAs⟩ := hrel
                have HAt := HAT.out
                have hIb := HAt.2.2.1.kept hg (fun e => by have h5 := HAt.1.2.1.lt _ e.symm; have h6 := HAt.1.2.2.1 _ e.symm; omega)
                have i5 := hIb.get 5 _ rfl
                have i6 := hIb.get 6 _ rfl
                by_cases hjl : j < args.length
                · obtain ⟨ga, rfl⟩ := hAs.some_row (by omega)
                  have hjl2 : j < es.length := by omega
                  have hth := own_there (f := argC) (m := 3) (fun _ => rfl) hAs.2.1 j hjl2
                  obtain ⟨hput, hg1, hg2⟩ := hAs.put (m := 3) local_NoOwn (by decide) (fun _ => rfl) j hjl2 ⟨77, j, 0⟩ (fun _ _ _ _ => trivial)
                  have HTH := Lib.hid hth
                  have HPUT := Lib.hid hput
                  have HG := Lib.hid hg
                  clear hth hput hAs hg hIb HAt
                  go_wp2_with (first
                    | (refine wpList_store_mid rfl 49 (.tmp 55) (.tmp 54) rfl ga (j * 3) (argC ⟨77, j, 0⟩).toArray (by simp [go_sem]) (by simp [go_sem, argC]) HTH.out HIV.out (all_oneCell_toArray (argC_one1 _)) ?_))
                  exact ⟨⟨j + 1, es.set j ⟨77, j, 0⟩, by omega, by go_num, by rw [List.length_set]; exact hasl, grown_setCells _ _ HG.out, HPUT.out⟩, by simp [intOf]; omega⟩
                · have hTs : ListOwn 3 1 intC NoOwn a2 c2 wr tp ts0.length tc ts0 := ⟨HAt.2.1.1, HAt.2.1.2.1.kept hg (rows_apart HAt.2.1.2.1 HAt.1.2.1 (by decide)), HAt.2.1.2.2.1, spread_NoOwn HAt.2.1.le _⟩
                  have HAS := Lib.hid (And.intro hasl (And.intro hg (And.intro hAs (And.intro hTs hIb))))
                  clear hAs hTs hg HAt hIb i5
                  go_wp2_with fail
                  clear i6
                  generalize wr = w5 at *
                  go_loopw [60] (fun t wr => ∃ (j : Nat) (es : List Int), j ≤ ts0.length ∧ t = .int .i64 j ∧ es.length = ts0.length ∧ w5.grownBy wr (Value.slice tp ts0.length tc).ownBlock ∧ ListOwn 3 1 intC NoOwn a2 c2 wr tp ts0.length tc es) (fun t _ => ts0.length - (intOf t).toNat)
                  case atStart => exact ⟨0, ts0, Nat.zero_le _, rfl, rfl, World.grownBy.refl _ _, HAS.out.2.2.2.1⟩
                  case round =>
                    obtain ⟨m, ts, hm, rfl, htl, hg, hTs⟩ := hrel
                    have hIb := HAS.out.2.2.2.2.kept hg (fun e => by have h5 := HAT.out.2.1.2.1.lt _ e.symm; have h6 := HAT.out.2.1.2.2.1 _ e.symm; omega)
                    have i6 := hIb.get 6 _ rfl
                    by_cases hml : m < ts0.length
                    · obtain ⟨ga, rfl⟩ := hTs.some_row (by omega)
                      have hml2 : m < ts.length := by omega
                      have hr := own_range (f := intC) (m := 1) (fun _ => rfl) hTs.2.1 m hml2
                      have hth := own_there (f := intC) (m := 1) (fun _ => rfl) hTs.2.1 m hml2
                      have q0 := hr 0 _ rfl
                      have fz := (hth 0 (by decide)).2
                      simp only [Nat.mul_one, Nat.add_zero] at q0 fz
                      obtain ⟨hput, hg1, hg2⟩ := hTs.put (m := 1) local_NoOwn (by decide) (fun _ => rfl) m hml2 (-77) (fun _ _ _ _ => trivial)
                      rw [Nat.mul_one] at hput
                      have HPUT := Lib.hid hput
                      have HG := Lib.hid hg
                      clear hr hth hput hTs hg hIb
                      go_wp2_with fail
                      exact ⟨⟨m + 1, ts.set m (-77), by omega, by go_num, by rw [List.length_set]; exact htl, grown_setCells (intC (-77)) m HG.out, HPUT.out⟩, by simp [intOf]; omega⟩
                    · have gA := HAS.out.2.1
                      have oA := Out.grown (lo := a2) (hi := c2) gA (fun g e => ⟨(HAT.out.1.2.1.lt g e).1, HAT.out.1.2.2.1 g e⟩)
                      have oT := Out.grown (lo := a2) (hi := c2) hg (fun g e => ⟨(HAT.out.2.1.2.1.lt g e).1, HAT.out.2.1.2.2.1 g e⟩)
                      have oAT := oA.trans oT
                      have O6 : Out ca cb w3 wr := HAT.out.2.2.2.1.trans (oAT.mono j1 j3)
                      have hAw : ListOwn 49 3 argC NoOwn a2 c2 wr ap args.length ac es := ⟨HAS.out.2.2.1.1, HAS.out.2.2.1.2.1.kept hg (rows_apart HAS.out.2.2.1.2.1 HAS.out.2.2.2.1.2.1 (by decide)), HAS.out.2.2.1.2.2.1, spread_NoOwn HAS.out.2.2.1.le _⟩
                      have hC6 := HUPI.out wr (⟨op, rg, ty, nn, fl, ap, args.length, ac, tp, ts0.length, tc, es⟩, ts) rfl (fun m h1 h2 h3 => (oAT.block m (Nat.lt_of_lt_of_le (Nat.lt_of_lt_of_le h2 hcb) (by rw [← HWW.out]; simp)) h3).trans (by rw [← HWW.out]; exact Below.heap_alloc _ _ _ (Nat.lt_of_lt_of_le h2 hcb))) ⟨hAw, hTs⟩
                      have F6 := Out.box F3 O6 (.inr (by omega))
                      have a3 := F6.get 3 _ rfl
                      have c1 := (HBC.out wr _ O6 hC6).2
                      have hkL2 : k < (L.set k ((⟨op, rg, ty, nn, fl, ap, args.length, ac, tp, ts0.length, tc, es⟩, ts) : LI)).length := by rw [List.length_set]; omega
                      have hth := own_there (f := liC) (m := 7) (fun _ => rfl) hC6.2.1 k hkL2
                      obtain ⟨hput, hg1, hg2⟩ := hC6.put (m := 7) local_Ins (by decide) (fun _ => rfl) k hkL2 badI (fun a' b' w' h => badI_own a' b' w' h)
                      have HTH := Lib.hid hth
                      have ho7 := O6.trans (out_setCells hg1 hg2 (liC badI) (k * 7) wr)
                      rw [badC_eq] at hput ho7
                      have HPUT := Lib.hid hput
                      have HO6 := Lib.hid ho7
                      have HTH2 : wr.there gc (k * 7) badC.toArray.size := HTH.out
                      have HIC2 : (Try.prog.info? 46).map (·.size) = some badC.toArray.size := HIC.out
                      clear hth hput ho7 hC6 hAw hTs hg gA oA oT oAT O6 F6 hIb i6
                      go_wp2_with (first
                        | (with_reducible refine wpList_store_mid rfl 46 (.tmp 76) (.tmp 75) rfl gc (k * 7) badC.toArray (by simp [go_sem]) (by simp [go_sem, badC]) HTH2 HIC2 badAll ?_))
                      refine ⟨⟨k + 1, _, by omega, by go_num, ?_, Lib.hid (fun j hj => ?_), HO6.out, HPUT.out⟩, by simp [intOf]; omega⟩
                      · rw [List.length_set, List.length_set]; exact hLl
                      · rw [List.getElem?_set_ne (by omega), List.getElem?_set_ne (by omega)]
                        exact hLs.out j (by omega)
            · obtain rfl : k = bs[i].code.length := by omega
              have hBw := (HBC.out wr L hO4 hC4).1
              have hil2 : i < (cs.set i ⟨PP, bs[i].code.length, bs[i].k, L⟩).length := by rw [List.length_set]; exact hic
              have hth := own_there (f := blkC) (m := 1) (fun _ => rfl) hBw.2.1 i hil2
              have fz := (hth 0 (by decide)).2
              simp only [Nat.mul_one, Nat.add_zero] at fz
              obtain ⟨hput, hg1, hg2⟩ := hBw.put (m := 1) local_Blk (by decide) (fun _ => rfl) i hil2 badB (fun a' b' w' h => badB_own a' b' w' h)
              rw [Nat.mul_one] at hput
              have HPUT := Lib.hid hput
              have HO6 := Lib.hid ((hO3.trans (hO4.mono i1 i3)).trans (out_setCells hg1 hg2 (blkC badB) i wr))
              clear hth hput hBw hC4 F4
              go_wp2_with fail
              refine ⟨⟨i + 1, _, by omega, by go_num, ?_, Lib.hid (fun j hj => ?_), HO6.out, HPUT.out⟩, by simp [intOf]; omega⟩
              · rw [List.length_set, List.length_set]; exact hcl
              · rw [List.getElem?_set_ne (by omega), List.getElem?_set_ne (by omega)]
                exact hsame.out j (by omega)
        · go_wp2_with fail
          go_end0
          exact ⟨rfl, HOW.out.trans (hO3.mono l1 (Nat.le_refl _))⟩
theorem ext_row {B : Nat} {w : World} {p : Option Addr} {n c : Nat} {L : List LExt} {E : Nat → World → LExt → Prop} (h : ListIn extC E B w p n c L) (i : Nat) (hi : i < L.length) :
    ∃ a, p = some a ∧ a.block < B ∧ w.cell? (a.add (i * 3)) = some (.string L[i].nm) ∧ w.cell? ⟨(a.add (i * 3)).block, (a.add (i * 3)).off + 1, none⟩ = some (.slice L[i].pp L[i].pn L[i].pc) ∧ w.cell? ⟨(a.add (i * 3)).block, (a.add (i * 3)).off + 2, none⟩ = some (.int .i64 L[i].rt) := by
  obtain ⟨h1, h2, h3, h4, -⟩ := h
  obtain ⟨a, e, ha, hc⟩ := h4.at (m := 3) (fun _ => rfl) i hi (by decide)
  refine ⟨a, e, ha, hc 0 (by decide), ?_, ?_⟩
  · have := hc 1 (by decide); rw [add_add a _ 1 (by decide)] at this; exact this
  · have := hc 2 (by decide); rw [add_add a _ 2 (by decide)] at this; exact this
theorem fn_row {B : Nat} {w : World} {p : Option Addr} {n c : Nat} {L : List LFn} {E : Nat → World → LFn → Prop} (h : ListIn fnC E B w p n c L) (i : Nat) (hi : i < L.length) :
    ∃ a, p = some a ∧ a.block < B ∧ w.cell? (a.add (i * 4)) = some (.string L[i].nm) ∧ w.cell? ⟨(a.add (i * 4)).block, (a.add (i * 4)).off + 1, none⟩ = some (.slice L[i].pp L[i].pn L[i].pc) ∧ w.cell? ⟨(a.add (i * 4)).block, (a.add (i * 4)).off + 2, none⟩ = some (.int .i64 L[i].rt) ∧ w.cell? ⟨(a.add (i * 4)).block, (a.add (i * 4)).off + 3, none⟩ = some (.slice L[i].bp L[i].bn L[i].bc) := by
  obtain ⟨h1, h2, h3, h4, -⟩ := h
  obtain ⟨a, e, ha, hc⟩ := h4.at (m := 4) (fun _ => rfl) i hi (by decide)
  refine ⟨a, e, ha, hc 0 (by decide), ?_, ?_, ?_⟩
  · have := hc 1 (by decide); rw [add_add a _ 1 (by decide)] at this; exact this
  · have := hc 2 (by decide); rw [add_add a _ 2 (by decide)] at this; exact this
  · have := hc 3 (by decide); rw [add_add a _ 3 (by decide)] at this; exact this
theorem blk_add (a : Addr) (i : Nat) {B : Nat} (h : a.block < B) : (a.add i).block < B := by rw [add_block]; exact h
theorem enters_sf : ∀ (args : Array Value) (w : World), (callFunc 14 args).run Try.prog w = .ok (.enter 14 args) w := fun _ _ => rfl
theorem FnOwn.stays {a b : Nat} {w w' : World} {y : LFn} (h : FnOwn a b w y) (hs : Stay a b w w') : FnOwn a b w' y := local_Fn a b w w' y hs h
theorem ModOwn.stays {a b : Nat} {w w' : World} {y : LMod} (h : ModOwn a b w y) (hs : Stay a b w w') : ModOwn a b w' y := local_Mod a b w w' y hs h
/-- What is owned in the blocks from a on, ahead of b. -/
abbrev Owned := Nat × Nat × (World → Prop)
def fnO (a b : Nat) (y : LFn) : Owned := (a, b, fun w => FnOwn a b w y)
def modO (a b : Nat) (y : LMod) : Owned := (a, b, fun w => ModOwn a b w y)
/-- Boxes and what is owned, at a later world. -/
structure Stands (W : World) (R : List (Nat × List Value)) (O : List Owned) (w : World) : Prop where
  past : Past W.heap.size W w
  box : ∀ x ∈ R, Box x.1 x.2 w
  own : ∀ x ∈ O, x.2.2 w ∧ (∀ u u', Stay x.1 x.2.1 u u' → x.2.2 u → x.2.2 u') ∧ x.2.1 ≤ w.heap.size ∧ W.heap.size ≤ x.1
theorem Stands.start (W : World) : Stands W [] [] W := ⟨Past.refl (Nat.le_refl _), fun x h => absurd h (by simp), fun x h => absurd h (by simp)⟩
section
variable {W w w' : World} {R R' : List (Nat × List Value)} {O O' : List Owned}
theorem Stands.later (h : Stands W R O w) (hb : Below w.heap.size w w') : Stands W R O w' :=
  ⟨h.past.trans ⟨h.past.size, hb.mono h.past.size⟩, fun x hx => (h.box x hx).later hb, fun x hx => by
    obtain ⟨h1, hl, h2, h3⟩ := h.own x hx
    exact ⟨hl _ _ (below_stay hb h2) h1, hl, Nat.le_trans h2 hb.size, h3⟩⟩
theorem Stands.alloc (h : Stands W R O w) (o : Obj) : Stands W R O (w.alloc o) := h.later ((Below.refl _ _).alloc (Nat.le_refl _) o)
theorem Stands.drew (h : Stands W R O w) : Stands W R O w.drew := h.later (below_drew (Below.refl _ _))
theorem Stands.put (h : Stands W R O w) (cs : List Value) (t : TypeId) : Stands W ((w.heap.size, cs) :: R) O (w.alloc (.cells cs.toArray t)) :=
  ⟨(h.alloc _).past, fun x hx => by
    rcases List.mem_cons.1 hx with rfl | hx
    · exact Box.new w rfl cs t
    · exact (h.alloc _).box x hx, (h.alloc _).own⟩
theorem Stands.moreO (h : Stands W R O w) (hp : Past w.heap.size w w') (Q : World → Prop) (hq : Q w') (hl : ∀ u u', Stay w.heap.size w'.heap.size u u' → Q u → Q u') : Stands W R ((w.heap.size, w'.heap.size, Q) :: O) w' :=
  ⟨(h.later hp.2).past, (h.later hp.2).box, fun x hx => by
    rcases List.mem_cons.1 hx with rfl | hx
    · exact ⟨hq, hl, Nat.le_refl _, h.past.size⟩
    · exact (h.later hp.2).own x hx⟩
theorem Stands.more (h : Stands W R O w) (hp : Past w.heap.size w w') {y : LFn} (hy : FnOwn w.heap.size w'.heap.size w' y) : Stands W R (fnO w.heap.size w'.heap.size y :: O) w' :=
  h.moreO hp _ hy (fun _ _ hs hq => FnOwn.stays hq hs)
theorem Stands.moreM (h : Stands W R O w) (hp : Past w.heap.size w w') {y : LMod} (hy : ModOwn w.heap.size w'.heap.size w' y) : Stands W R (modO w.heap.size w'.heap.size y :: O) w' :=
  h.moreO hp _ hy (fun _ _ hs hq => ModOwn.stays hq hs)
theorem Stands.fn (h : Stands W R O w) {a b : Nat} {y : LFn} (hx : fnO a b y ∈ O) : FnIn w.heap.size w y := FnOwn.lies (h.own _ hx).2.2.1 (h.own _ hx).1
theorem Stands.mod (h : Stands W R O w) {a b : Nat} {y : LMod} (hx : modO a b y ∈ O) : ModIn w.heap.size w y := ModOwn.lies (h.own _ hx).2.2.1 (h.own _ hx).1
theorem Stands.arg (h : Stands W R O w) {f : LFn} (hf : FnIn W.heap.size W f) : FnIn w.heap.size w f := past_lasts lasts_Fn hf h.past
theorem Stands.argM (h : Stands W R O w) {f : LMod} (hf : ModIn W.heap.size W f) : ModIn w.heap.size w f := past_lasts lasts_Mod hf h.past
theorem Stands.sub (h : Stands W R O w) (hR : ∀ x ∈ R', x ∈ R) (hO : ∀ x ∈ O', x ∈ O) : Stands W R' O' w :=
  ⟨h.past, fun x hx => h.box x (hR x hx), fun x hx => h.own x (hO x hx)⟩
theorem Stands.out (h : Stands W R O w) {lo hi : Nat} (ho : Out lo hi w w') (hlo : W.heap.size ≤ lo) (hR : ∀ x ∈ R, x.1 < lo ∨ hi ≤ x.1) (hO : ∀ x ∈ O, x.2.1 ≤ lo ∨ hi ≤ x.1) : Stands W R O w' :=
  ⟨h.past.trans ⟨h.past.size, ho.below hlo h.past.size⟩, fun x hx => Out.box (h.box x hx) ho (hR x hx), fun x hx => by
    obtain ⟨h1, hl, h2, h3⟩ := h.own x hx
    exact ⟨hl _ _ (ho.stay h2 (hO x hx)) h1, hl, Nat.le_trans h2 ho.size, h3⟩⟩
theorem box_sets {g : Nat} : ∀ (cs xs : List Value) (o : Nat) {w : World}, Box g xs w → Box g (sets xs o cs) (w.setCells g o cs)
  | [], _, _, _, h => h
  | c :: r, xs, o, w, h => by
    unfold sets World.setCells
    exact box_sets r _ (o + 1) (h.set o c)
theorem sets_all (xs cs : List Value) (h : xs.length = cs.length) : sets xs 0 cs = cs := by
  apply List.ext_getElem?
  intro j
  rw [sets_get _ _ _ _ (by omega)]
  by_cases hj : j < cs.length
  · rw [if_pos (by omega), Nat.sub_zero]
  · rw [if_neg (by omega), List.getElem?_eq_none (by omega), List.getElem?_eq_none (by omega)]
/-- A box filled anew. -/
theorem Stands.fill (h : Stands W R O w) {b : Nat} {cs : List Value} (cs' : List Value) (hb : (b, cs) ∈ R) (hW : W.heap.size ≤ b) (hl : cs.length = cs'.length) (hR : ∀ x ∈ R', x = (b, cs') ∨ (x ∈ R ∧ x.1 ≠ b)) (hO : ∀ x ∈ O, x.2.1 ≤ b ∨ b < x.1) : Stands W R' O (w.setCells b 0 cs') := by
  have ho : Out b (b + 1) w (w.setCells b 0 cs') := out_setCells (Nat.le_refl _) (Nat.lt_succ_self _) cs' 0 w
  have h2 : Stands W (R.filter fun x => decide (x.1 ≠ b)) O (w.setCells b 0 cs') := by
    refine Stands.out (h.sub (fun x hx => (List.mem_filter.1 hx).1) (fun x hx => hx)) ho hW (fun x hx => ?_) (fun x hx => ?_)
    · have := (List.mem_filter.1 hx).2
      simp only [decide_eq_true_eq] at this
      omega
    · have := hO x hx
      omega
  refine ⟨h2.past, fun x hx => ?_, h2.own⟩
  rcases hR x hx with rfl | ⟨hx, hne⟩
  · have := box_sets cs' cs 0 (h.box _ hb)
    rw [sets_all _ _ hl] at this
    exact this
  · exact h2.box x (List.mem_filter.2 ⟨hx, by simpa using hne⟩)
theorem Stands.get (h : Stands W R O w) {b : Nat} {cs : List Value} (hb : (b, cs) ∈ R) (i : Nat) (u : Value) (e : cs[i]? = some u) : w.cell? ⟨b, i, none⟩ = some u := (h.box _ hb).get i u e
theorem Stands.lt (h : Stands W R O w) {b : Nat} {cs : List Value} (hb : (b, cs) ∈ R) : b < w.heap.size := (h.box _ hb).1
end
set_option maxRecDepth 100000 in
set_option maxHeartbeats 4000000 in
theorem Few_any (m : LMod) (most : Int) (W : World) (h : ModIn W.heap.size W m) :
    Calls Try.prog 6 #[.agg (modC m).toArray, .int .i64 most] W (SomeBool W) := by
  obtain ⟨vp, vn, vc, vs, xp, xn, xc, xs, fp, fn, fc, fs⟩ := m
  obtain ⟨h1, h2, h3⟩ := h
  simp only at h1 h2 h3
  obtain rfl : xn = xs.length := h2.1
  obtain rfl : fn = fs.length := h3.1
  have k2 := h2.2.1
  have k3 := h2.2.2.1
  have k2' := h3.2.1
  have k3' := h3.2.2.1
  unfold maxLen at k3 k3'
  have H2 := Lib.hid h2
  have H3 := Lib.hid h3
  clear h1 h2 h3
  show Calls Try.prog 6 #[.agg #[.slice vp vn vc, .slice xp xs.length xc, .slice fp fs.length fc], .int .i64 most] W (SomeBool W)
  have hP : Past W.heap.size W (W.alloc (.cells #[.slice vp vn vc, .slice xp xs.length xc, .slice fp fs.length fc] 32)) := (Past.refl (Nat.le_refl _)).alloc _
  have A1 : Box W.heap.size [.slice vp vn vc, .slice xp xs.length xc, .slice fp fs.length fc] (W.alloc (.cells #[.slice vp vn vc, .slice xp xs.length xc, .slice fp fs.length fc] 32)) := Box.new W rfl _ _
  go_enter Try.func6, Try.ntmps6
  go_wp2_with fail
  generalize W.alloc (.cells #[.slice vp vn vc, .slice xp xs.length xc, .slice fp fs.length fc] 32) = w1 at *
  go_loopw [5, 28] (fun m t wr => ∃ (v : Int) (b : Nat), b ≤ xs.length ∧ m = .int .i64 v ∧ t = .int .i64 b ∧ Past W.heap.size W wr ∧ Box W.heap.size [.slice vp vn vc, .slice xp xs.length xc, .slice fp fs.length fc] wr) (fun _ t _ => xs.length - (intOf t).toNat)
  case atStart => exact ⟨_, 0, Nat.zero_le _, rfl, rfl, hP, A1⟩
  case round =>
    obtain ⟨v, b, hb, rfl, rfl, hbe, hB⟩ := hrel
    by_cases hlt : b < xs.length
    · obtain ⟨a, rfl, ha, c0, c1, c2⟩ := ext_row H2.out b hlt
      have d0 := (hbe.2.cell (p := a.add (b * 3)) (blk_add a _ ha)).trans c0
      have d1 := (hbe.2.cell (p := ⟨(a.add (b * 3)).block, (a.add (b * 3)).off + 1, none⟩) (blk_add a _ ha)).trans c1
      have d2 := (hbe.2.cell (p := ⟨(a.add (b * 3)).block, (a.add (b * 3)).off + 2, none⟩) (blk_add a _ ha)).trans c2
      clear c0 c1 c2
      go_wp2_with fail
      exact ⟨⟨_, b + 1, by omega, rfl, by go_num, hbe.alloc _, hB.alloc _⟩, by simp [intOf]; omega⟩
    · obtain rfl : b = xs.length := by omega
      have a2 := hB.get 2 _ rfl
      clear hP A1
      rename_i wq
      have hP := hbe
      have A1 := hB
      clear hbe hB
      go_wp2_with fail
      clear a2
      go_loopw [5, 41] (fun m t wr => ∃ (v : Int) (b : Nat), b ≤ fs.length ∧ m = .int .i64 v ∧ t = .int .i64 b ∧ Past W.heap.size W wr) (fun _ t _ => fs.length - (intOf t).toNat)
      case atStart => exact ⟨_, 0, Nat.zero_le _, rfl, rfl, hP⟩
      case round =>
        obtain ⟨v, b, hb, rfl, rfl, hbe⟩ := hrel
        by_cases hlt : b < fs.length
        · obtain ⟨a, rfl, ha, c0, c1, c2, c3⟩ := fn_row H3.out b hlt
          have d0 := (hbe.2.cell (p := a.add (b * 4)) (blk_add a _ ha)).trans c0
          have d1 := (hbe.2.cell (p := ⟨(a.add (b * 4)).block, (a.add (b * 4)).off + 1, none⟩) (blk_add a _ ha)).trans c1
          have d2 := (hbe.2.cell (p := ⟨(a.add (b * 4)).block, (a.add (b * 4)).off + 2, none⟩) (blk_add a _ ha)).trans c2
          have d3 := (hbe.2.cell (p := ⟨(a.add (b * 4)).block, (a.add (b * 4)).off + 3, none⟩) (blk_add a _ ha)).trans c3
          clear c0 c1 c2 c3
          have hin := H3.out.2.2.2.2 fs[b] (List.getElem_mem hlt)
          obtain ⟨p, cap, he, hc1, hc2, hbl⟩ := blocksAt_in hin.2
          obtain ⟨l, el⟩ : ∃ l, located fs[b].bs = l := ⟨_, rfl⟩
          rw [el] at he hc1 hbl
          injection he with he1 he2 he3
          unfold maxLen at hc2
          rw [he1, he2, he3] at d3
          have HBL := Lib.hid hbl
          have hx := hbe.alloc (.cells #[.string fs[b].nm, .slice fs[b].pp fs[b].pn fs[b].pc, .int .i64 fs[b].rt, .slice p l.length cap] 25)
          clear hbl hin el he1 he2 he3
          go_wp2_with fail
          go_loopw [5, 57] (fun m t wr => ∃ (v : Int) (b : Nat), b ≤ l.length ∧ m = .int .i64 v ∧ t = .int .i64 b ∧ Past W.heap.size W wr) (fun _ t _ => l.length - (intOf t).toNat)
          case atStart => exact ⟨_, 0, Nat.zero_le _, rfl, rfl, hx⟩
          case round =>
            obtain ⟨v3, b3, hb3, rfl, rfl, hbe3⟩ := hrel
            by_cases hlt3 : b3 < l.length
            · obtain ⟨a3, x3, rfl, hab, hcell, hcode⟩ := HBL.out b3 hlt3
              obtain ⟨q2, cap2, rfl, hd1, hd2, hcd⟩ := hcode
              unfold maxLen at hd2
              have k1 : wr.cell? (a3.add b3) = some (.slice q2 l[b3].length cap2) := (hbe3.2.cell (p := a3.add b3) (by rw [add_block]; exact hab)).trans hcell
              have HCD := Lib.hid hcd
              have b1 := hbe3.alloc (.cells #[.slice q2 l[b3].length cap2] 43)
              clear hcd hcell
              go_wp2_with fail
              go_loopw [5, 69] (fun m t wi => ∃ (v : Int) (k : Nat), k ≤ l[b3].length ∧ m = .int .i64 v ∧ t = .int .i64 k ∧ Past W.heap.size W wi) (fun _ t _ => l[b3].length - (intOf t).toNat)
              case atStart => exact ⟨_, 0, Nat.zero_le _, rfl, rfl, b1⟩
              case round =>
                obtain ⟨v2, k, hk, rfl, rfl, hbi⟩ := hrel
                by_cases hkl : k < l[b3].length
                · obtain ⟨a2, rfl, ha2, hins⟩ := HCD.out k hkl
                  obtain ⟨z0, z1, z2, z3, z4, z5, z6⟩ := hins.below hbi.2 (by rw [add_block]; exact ha2)
                  clear hins
                  go_wp2_with fail
                  · go_ret
                    exact ⟨false, rfl, (hbi.alloc _).2⟩
                  · exact ⟨⟨_, k + 1, by omega, rfl, by go_num, hbi.alloc _⟩, by simp [intOf]; omega⟩
                · obtain rfl : k = l[b3].length := by omega
                  go_wp2_with fail
                  exact ⟨⟨_, b3 + 1, by omega, rfl, by go_num, hbi⟩, by simp [intOf]; omega⟩
            · obtain rfl : b3 = l.length := by omega
              go_wp2_with fail
              exact ⟨⟨_, b + 1, by omega, rfl, by go_num, hbe3⟩, by simp [intOf]; omega⟩
        · obtain rfl : b = fs.length := by omega
          go_wp2_with fail
          go_ret
          exact ⟨_, rfl, hbe.2⟩
/-- wpList_append_at, at a step of a region that draws its order. -/
theorem step_append_at {P : Program} {w : World} {ops : Array Oper} {o : Oper} {a : Act} {K : Act → World → Prop} {Q : Exit → Act → World → Prop} {E : Prop} (hgd : o.guard = none) (s x : Operand) (t : TypeId)
    (ho : o.op = .call { callee := .builtin .append, args := #[s, x], argTypes := #[t, t] })
    (base : Nat) (e : TypeId) (i : TypeInfo) (z : Value) (size bytes : Nat) (ht : P.underlying t = some (.slice e)) (hi : P.info? e = some i) (hz : i.zero = some z)
    (hsize : i.size = size) (hby : i.bytes = bytes) (hzs : z.cells.size = size) (hsz : 0 < size)
    (v : Value) (n : Nat) (xs : List Value) (hs : a.eval s = v) (hown : w.ownsRow base e size v n xs)
    (p : Option Addr) (m c : Nat) (news : List Value) (hx : a.eval x = .slice p m c) (hl : news.length = m * size) (hnews : ∀ j u, news[j]? = some u → ∃ ad, p = some ad ∧ w.cell? (ad.add j) = some u) (h1 : ∀ u ∈ news, u.oneCell' = true)
    (h63 : n + m ≤ maxLen) (hbytes : (n + m) * bytes ≤ 140737488355328) (hbase : base ≤ w.heap.size)
    (h : ∀ v' w', w'.ownsRow base e size v' (n + m) (xs ++ news) → w.grownBy w' v.ownBlock → Moved w v v' → K (a.put o.dst v') w') :
    if Region.wanted o (yielded ops a.tmps) = true then Oper.wp P o a w K Q else E := by
  have hw : Region.wanted o (yielded ops a.tmps) = true := by simp [Region.wanted, hgd]
  rw [if_pos hw]
  cases p with
  | some ad =>
    have hnews' : ∀ j u, news[j]? = some u → w.cell? (ad.add j) = some u := fun j u hj => by
      obtain ⟨ad', e1, e2⟩ := hnews j u hj
      cases e1
      exact e2
    obtain ⟨v', w', hr, h2, h3, -⟩ := run_append_own (P := P) w base t o.type e i z size bytes ht hi hz hsize hby hzs hsz v n xs hown ad m c news hl hnews' h1 h63 hbytes hbase
    have h4 := append_where w base t o.type e i z size bytes ht hi hz hsize hby hsz v n xs hown ad m c news hl hnews' h1 h63 hbytes v' w' hr
    unfold Oper.wp execOp
    simp only [ho, resolve, invoke, builtin, Sem.run_bind, Sem.run_pure, Result.andThen_ok, List.map_toArray, List.map_cons, List.map_nil, hs, hx, hr]
    exact h v' w' h2 h3 h4
  | none =>
    have hn0 : news = [] := by
      cases news with
      | nil => rfl
      | cons u r => obtain ⟨_, e1, _⟩ := hnews 0 u rfl; cases e1
    subst hn0
    obtain rfl : m = 0 := by
      rcases Nat.eq_zero_or_pos m with h0 | h0
      · exact h0
      · have := Nat.mul_pos h0 hsz; simp at hl; omega
    have hr : (Builtin.append_ #[t, t] o.type #[v, .slice none 0 c]).run P w = .ok v w := by
      rcases hown.2 with ⟨rfl, rfl⟩ | ⟨g, cap, cur, rfl, hbg, hg, hnc, hcm, hcs, htake⟩
      · simp [Builtin.append_, run_underlying ht, sizeOf, typeInfo, hi, Builtin.lenOf, Builtin.firstCells]
      · simp [Builtin.append_, run_underlying ht, sizeOf, typeInfo, hi, Builtin.lenOf, Builtin.firstCells, hnc, storeCells]
    unfold Oper.wp execOp
    simp only [ho, resolve, invoke, builtin, Sem.run_bind, Sem.run_pure, Result.andThen_ok, List.map_toArray, List.map_cons, List.map_nil, hs, hx, hr]
    exact h v w (by rw [List.append_nil]; exact hown) (World.grownBy.refl _ _) (.inl rfl)
/-- A list of the call's own that grows: its row, and each element's memory. -/
structure Grows {α : Type} (ty m : Nat) (cel : α → List Value) (Q : Nat → Nat → World → α → Prop) (d : Nat) (ys : List α) (q : Option Addr) (c : Nat) (w : World) : Prop where
  dw : d ≤ w.heap.size
  row : w.ownsRow d ty m (.slice q ys.length c) ys.length (ys.flatMap cel)
  sp : Spread Q (Value.slice q ys.length c).ownBlock d w.heap.size w ys
section
variable {α : Type} {ty m : Nat} {cel : α → List Value} {Q : Nat → Nat → World → α → Prop} {d : Nat} {ys : List α} {q : Option Addr} {c : Nat} {w w' : World}
theorem Grows.start (w : World) (hd : d ≤ w.heap.size) : Grows ty m cel Q d [] none 0 w := ⟨hd, World.ownsRow_nil _ _ _ _, hd⟩
theorem Grows.later (hQ : Local Q) (h : Grows ty m cel Q d ys q c w) (hb : Below w.heap.size w w') : Grows ty m cel Q d ys q c w' :=
  ⟨Nat.le_trans h.dw hb.size, ownsRow_below h.row hb, (h.sp.stay hQ (fun k _ hk _ => hb.block k hk)).up hb.size⟩
theorem Grows.set (hQ : Local Q) (h : Grows ty m cel Q d ys q c w) {a : Addr} (ha : a.block < d) (v : Value) : Grows ty m cel Q d ys q c (w.setCell a v) :=
  ⟨by simpa [World.setCell] using h.dw, ownsRow_set h.row ha v, by
    have e : (w.setCell a v).heap.size = w.heap.size := by simp [World.setCell]
    rw [e]
    exact h.sp.stay hQ (fun k hk _ _ => Below.heap_setCell _ _ _ _ (by omega))⟩
theorem Grows.snoc (hQ : Local Q) {w0 w2 w3 : World} (h : Grows ty m cel Q d ys q c w0) (hb : Below w0.heap.size w0 w2) {a b : Nat} {y : α} (hy : Q a b w2 y) (ha : w0.heap.size ≤ a) (hab : a ≤ b) (hb2 : b ≤ w2.heap.size) {q' : Option Addr} {c' : Nat}
    (hown : w3.ownsRow d ty m (.slice q' (ys.length + 1) c') (ys.length + 1) (ys.flatMap cel ++ cel y)) (hg : w2.grownBy w3 (Value.slice q ys.length c).ownBlock) (hm : Moved w2 (Value.slice q ys.length c) (Value.slice q' (ys.length + 1) c')) : Grows ty m cel Q d (ys ++ [y]) q' c' w3 := by
  have hlt := h.row.lt
  have h1 := hb.size
  have h2 := hg.size
  have hs := Spread.grow hQ h.sp hb hg hm (fun g e => by have := (hlt g e).2; omega)
  have st : Stay a b w2 w3 := fun k x y => hg.block k (by omega) (fun e => by have := (hlt k e.symm).2; omega)
  have hlen : (ys ++ [y]).length = ys.length + 1 := by simp
  refine ⟨by have := h.dw; omega, ?_, ?_⟩
  · rw [hlen]
    have e : (ys ++ [y]).flatMap cel = ys.flatMap cel ++ cel y := by rw [List.flatMap_append]; simp
    rw [e]
    exact hown
  · rw [hlen]
    refine (hs.snoc ha hab (fun k e => ?_) (hQ _ _ _ _ _ st hy)).up (by omega)
    rcases hm with e2 | e2
    · rw [e2] at e; have := (hlt k e).2; omega
    · rw [e2] at e; injection e with e; omega
theorem Grows.own {lo : Nat} (h : Grows ty m cel Q d ys q c w) : ListOwn ty m cel Q d w.heap.size w q ys.length c ys := own_intro rfl h.row rfl h.sp
end
theorem infoOf_Var : (Try.prog.info? 103).map (fun i => (i.zero, i.size, i.bytes)) = some (some (.agg #[.string { data := #[] }, .int .i64 0]), 2, 24) := by kernel_rfl
theorem infoOf_Ext : (Try.prog.info? 55).map (fun i => (i.zero, i.size, i.bytes)) = some (some (.agg #[.string { data := #[] }, .slice none 0 0, .int .i64 0]), 3, 48) := by kernel_rfl
theorem infoOf_Fn : (Try.prog.info? 25).map (fun i => (i.zero, i.size, i.bytes)) = some (some (.agg #[.string { data := #[] }, .slice none 0 0, .int .i64 0, .slice none 0 0]), 4, 72) := by kernel_rfl
theorem Stands.box2 {W w : World} {R : List (Nat × List Value)} {O : List Owned} (h : Stands W R O w) {g : Nat} (hg : g = w.heap.size) (cs : List Value) (t : TypeId) : Stands W ((g, cs) :: R) O (w.alloc (.cells cs.toArray t)) := by
  subst hg; exact h.put cs t
/-- A list of numbers that the call owns. -/
def ownL (a b : Nat) (p : Option Addr) (k c : Nat) (ps : List Int) : Owned := (a, b, fun w => ListOwn 3 1 intC NoOwn a b w p k c ps)
theorem Stands.moreL {W w w' : World} {R : List (Nat × List Value)} {O : List Owned} (h : Stands W R O w) (hp : Past w.heap.size w w') {p : Option Addr} {k c : Nat} {ps : List Int} (hy : ListOwn 3 1 intC NoOwn w.heap.size w'.heap.size w' p k c ps) : Stands W R (ownL w.heap.size w'.heap.size p k c ps :: O) w' :=
  h.moreO hp _ hy (fun _ _ hs hq => ListOwn.stay local_NoOwn hq hs)
theorem Stands.ints {W w : World} {R : List (Nat × List Value)} {O : List Owned} (h : Stands W R O w) {a b : Nat} {p : Option Addr} {k c : Nat} {ps : List Int} (hx : ownL a b p k c ps ∈ O) : ListIn intC NoMem w.heap.size w p k c ps :=
  ListOwn.lies (m := 1) (by decide) (fun _ => rfl) (fun _ _ _ _ _ _ => trivial) (h.own _ hx).1 (h.own _ hx).2.2.1
end Go.Proofs.Ytdfdgpobohpphaa
