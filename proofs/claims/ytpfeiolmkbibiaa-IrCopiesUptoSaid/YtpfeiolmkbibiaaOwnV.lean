/- Package ir: sameness of whole modules. -/
import Derived.Test.YtpfeiolmkbibiaaOwnS
namespace Go.Proofs.Ytpfeiolmkbibiaa
open Go.RowKit Go.Maps
set_option linter.unusedVariables false
set_option linter.unusedSimpArgs false

theorem ext_row {B : Nat} {w : World} {p : Option Addr} {n c : Nat} {L : List LExt} {E : Nat → World → LExt → Prop} (h : ListIn extC E B w p n c L) (i : Nat) (hi : i < L.length) :
    ∃ a, p = some a ∧ a.block < B ∧ w.cell? (a.add (i * 3)) = some (.string L[i].nm) ∧ w.cell? ⟨(a.add (i * 3)).block, (a.add (i * 3)).off + 1, none⟩ = some (.slice L[i].pp L[i].pn L[i].pc) ∧ w.cell? ⟨(a.add (i * 3)).block, (a.add (i * 3)).off + 2, none⟩ = some (.int .i64 L[i].rt) := by
  obtain ⟨h1, h2, h3, h4, -⟩ := h
  obtain ⟨a, e, ha, hc⟩ := h4.at (m := 3) (fun _ => rfl) i hi (by decide)
  refine ⟨a, e, ha, hc 0 (by decide), ?_, ?_⟩
  · have := hc 1 (by decide); rw [add_add a _ 1 (by decide)] at this; exact this
  · have := hc 2 (by decide); rw [add_add a _ 2 (by decide)] at this; exact this
theorem fn_row {B : Nat} {w : World} {p : Option Addr} {n c : Nat} {L : List LFn} {E : Nat → World → LFn → Prop} (h : ListIn fnC E B w p n c L) (i : Nat) (hi : i < L.length) :
    ∃ a, p = some a ∧ a.block < B ∧ w.cell? (a.add (i * 4)) = some (.string L[i].nm) ∧ w.cell? ⟨(a.add (i * 4)).block, (a.add (i * 4)).off + 1, none⟩ = some (.slice L[i].pp L[i].pn L[i].pc) ∧ w.cell? ⟨(a.add (i * 4)).block, (a.add (i * 4)).off + 2, none⟩ = some (.int .i64 L[i].rt) ∧ w.cell? ⟨(a.add (i * 4)).block, (a.add (i * 4)).off + 3, none⟩ = some (.slice L[i].bp L[i].bn L[i].bc) := by
  obtain ⟨h1, h2, h3, h4, -⟩ := h
  obtain ⟨a, e, ha, hc⟩ := h4.at (m := 4) (fun _ => rfl) i hi (by decide)
  refine ⟨a, e, ha, hc 0 (by decide), ?_, ?_, ?_⟩
  · have := hc 1 (by decide); rw [add_add a _ 1 (by decide)] at this; exact this
  · have := hc 2 (by decide); rw [add_add a _ 2 (by decide)] at this; exact this
  · have := hc 3 (by decide); rw [add_add a _ 3 (by decide)] at this; exact this
theorem blk_add (a : Addr) (i : Nat) {B : Nat} (h : a.block < B) : (a.add i).block < B := by rw [add_block]; exact h

set_option maxRecDepth 100000 in
set_option maxHeartbeats 2000000 in
theorem EqFunc_X (h : FuncId) (hen : ∀ (args : Array Value) (w : World), (callFunc h args).run Try.prog w = .ok (.enter h args) w) (hcall : ∀ x y w, ExtIn w.heap.size w x → ExtIn w.heap.size w y → Calls Try.prog h #[.agg (extC x).toArray, .agg (extC y).toArray] w (Tells (extD x = extD y) w))
    (W : World) (p p' : Option Addr) (n n' c c' : Nat) (xs ys : List LExt) (hx : ListIn extC ExtIn W.heap.size W p n c xs) (hy : ListIn extC ExtIn W.heap.size W p' n' c' ys) :
    Calls Try.prog 44 #[.slice p n c, .slice p' n' c', .func (.func h) #[] #[]] W (Tells (xs.map extD = ys.map extD) W) := by
  obtain rfl : n = xs.length := hx.1
  obtain rfl : n' = ys.length := hy.1
  have k2 := hx.2.1
  have k3 := hx.2.2.1
  have k2' := hy.2.1
  have k3' := hy.2.2.1
  unfold maxLen at k3 k3'
  have H := Lib.hid hx
  have H' := Lib.hid hy
  have HC := Lib.hid hcall
  clear hx hy hcall
  go_enter Try.func44, Try.ntmps44
  by_cases hl : xs.length = ys.length
  · have hl2 : ((xs.length : Int) != (ys.length : Int)) = false := by simp [hl]
    have HL := Lib.hid hl
    clear hl
    go_wp2_with fail
    go_loopw [17] (fun t wr => ∃ k : Nat, k ≤ xs.length ∧ t = .int .i64 k ∧ Past W.heap.size W wr ∧ Hid (∀ i (h1 : i < xs.length) (h2 : i < ys.length), i < k → extD xs[i] = extD ys[i])) (fun t _ => xs.length - (intOf t).toNat)
    case atStart => exact ⟨0, Nat.zero_le _, rfl, Past.refl (Nat.le_refl _), Lib.hid (fun i _ _ h => absurd h (Nat.not_lt_zero i))⟩
    case round =>
      obtain ⟨k, hk, rfl, hb, hE⟩ := hrel
      by_cases hlt : k < xs.length
      · have hlt' : k < ys.length := by have := HL.out; omega
        obtain ⟨a, rfl, ha, hc⟩ := ext_row H.out k hlt
        obtain ⟨a', rfl, ha', hc'⟩ := ext_row H'.out k hlt'
        obtain ⟨zc0, zc1, zc2⟩ := hc
        have z0 := (hb.2.cell (p := a.add (k * 3)) (blk_add a _ ha)).trans zc0
        have z1 := (hb.2.cell (p := ⟨(a.add (k * 3)).block, (a.add (k * 3)).off + 1, none⟩) (blk_add a _ ha)).trans zc1
        have z2 := (hb.2.cell (p := ⟨(a.add (k * 3)).block, (a.add (k * 3)).off + 2, none⟩) (blk_add a _ ha)).trans zc2
        clear zc0 zc1 zc2
        obtain ⟨yc0, yc1, yc2⟩ := hc'
        have y0 := (hb.2.cell (p := a'.add (k * 3)) (blk_add a' _ ha')).trans yc0
        have y1 := (hb.2.cell (p := ⟨(a'.add (k * 3)).block, (a'.add (k * 3)).off + 1, none⟩) (blk_add a' _ ha')).trans yc1
        have y2 := (hb.2.cell (p := ⟨(a'.add (k * 3)).block, (a'.add (k * 3)).off + 2, none⟩) (blk_add a' _ ha')).trans yc2
        clear yc0 yc1 yc2
        have hw := hb.2.size
        have u1 : (a'.add (k * 3)).block < wr.heap.size := by rw [add_block]; omega
        have u2 : a'.block < wr.heap.size := by omega
        have e1 := H.out.2.2.2.2 _ (List.getElem_mem hlt)
        have e2 := H'.out.2.2.2.2 _ (List.getElem_mem hlt')
        have P2 := (hb.alloc (.cells #[.string xs[k].nm, .slice xs[k].pp xs[k].pn xs[k].pc, .int .i64 xs[k].rt] 70)).alloc (.cells #[.string ys[k].nm, .slice ys[k].pp ys[k].pn ys[k].pc, .int .i64 ys[k].rt] 70)
        have hcc := HC.out xs[k] ys[k] _ (past_lasts lasts_Ext e1 P2) (past_lasts lasts_Ext e2 P2)
        have HCC := Lib.hid hcc
        clear e1 e2 hcc
        go_wp2_with fail
        refine HCC.out.mono ?_
        rintro e w2 ⟨bt, rfl, hbt, hb2⟩
        have P3 := P2.trans ⟨P2.size, hb2.mono P2.size⟩
        cases bt
        · go_wp2_with fail
          go_ret
          refine ⟨false, rfl, ?_, P3.2⟩
          simp only [Bool.false_eq_true, false_iff] at hbt ⊢
          intro e
          have e5 : (xs.map extD)[k]? = (ys.map extD)[k]? := by rw [e]
          rw [List.getElem?_map, List.getElem?_map, List.getElem?_eq_getElem hlt, List.getElem?_eq_getElem hlt'] at e5
          exact hbt (Option.some.inj e5)
        · have hq := hbt.1 rfl
          have HQ := Lib.hid hq
          clear hq hbt
          go_wp2_with fail
          exact ⟨⟨k + 1, by omega, by go_num, P3, Lib.hid (fun i h1 h2 h3 => by
            by_cases e : i = k
            · subst e; exact HQ.out
            · exact hE.out i h1 h2 (by omega))⟩, by simp [intOf]; omega⟩
      · go_wp2_with fail
        go_ret
        refine ⟨true, rfl, ?_, hb.2⟩
        simp only [true_iff]
        exact list_ext (by simpa using HL.out) (fun i h1 h2 => by simpa using hE.out i (by simpa using h1) (by simpa using h2) (Nat.lt_of_lt_of_le (by simpa using h1) (by omega)))
  · have hl2 : ((xs.length : Int) != (ys.length : Int)) = true := by simp; omega
    have HL := Lib.hid hl
    clear hl
    go_wp2_with fail
    go_ret
    exact ⟨false, rfl, by simp only [Bool.false_eq_true, false_iff]; intro e; have e2 := congrArg List.length e; rw [List.length_map, List.length_map] at e2; exact HL.out e2, Below.refl _ _⟩

set_option maxRecDepth 100000 in
set_option maxHeartbeats 2000000 in
theorem EqFunc_F (h : FuncId) (hen : ∀ (args : Array Value) (w : World), (callFunc h args).run Try.prog w = .ok (.enter h args) w) (hcall : ∀ x y w, FnIn w.heap.size w x → FnIn w.heap.size w y → Calls Try.prog h #[.agg (fnC x).toArray, .agg (fnC y).toArray] w (Tells (fnD x = fnD y) w))
    (W : World) (p p' : Option Addr) (n n' c c' : Nat) (xs ys : List LFn) (hx : ListIn fnC FnIn W.heap.size W p n c xs) (hy : ListIn fnC FnIn W.heap.size W p' n' c' ys) :
    Calls Try.prog 46 #[.slice p n c, .slice p' n' c', .func (.func h) #[] #[]] W (Tells (xs.map fnD = ys.map fnD) W) := by
  obtain rfl : n = xs.length := hx.1
  obtain rfl : n' = ys.length := hy.1
  have k2 := hx.2.1
  have k3 := hx.2.2.1
  have k2' := hy.2.1
  have k3' := hy.2.2.1
  unfold maxLen at k3 k3'
  have H := Lib.hid hx
  have H' := Lib.hid hy
  have HC := Lib.hid hcall
  clear hx hy hcall
  go_enter Try.func46, Try.ntmps46
  by_cases hl : xs.length = ys.length
  · have hl2 : ((xs.length : Int) != (ys.length : Int)) = false := by simp [hl]
    have HL := Lib.hid hl
    clear hl
    go_wp2_with fail
    go_loopw [17] (fun t wr => ∃ k : Nat, k ≤ xs.length ∧ t = .int .i64 k ∧ Past W.heap.size W wr ∧ Hid (∀ i (h1 : i < xs.length) (h2 : i < ys.length), i < k → fnD xs[i] = fnD ys[i])) (fun t _ => xs.length - (intOf t).toNat)
    case atStart => exact ⟨0, Nat.zero_le _, rfl, Past.refl (Nat.le_refl _), Lib.hid (fun i _ _ h => absurd h (Nat.not_lt_zero i))⟩
    case round =>
      obtain ⟨k, hk, rfl, hb, hE⟩ := hrel
      by_cases hlt : k < xs.length
      · have hlt' : k < ys.length := by have := HL.out; omega
        obtain ⟨a, rfl, ha, hc⟩ := fn_row H.out k hlt
        obtain ⟨a', rfl, ha', hc'⟩ := fn_row H'.out k hlt'
        obtain ⟨zc0, zc1, zc2, zc3⟩ := hc
        have z0 := (hb.2.cell (p := a.add (k * 4)) (blk_add a _ ha)).trans zc0
        have z1 := (hb.2.cell (p := ⟨(a.add (k * 4)).block, (a.add (k * 4)).off + 1, none⟩) (blk_add a _ ha)).trans zc1
        have z2 := (hb.2.cell (p := ⟨(a.add (k * 4)).block, (a.add (k * 4)).off + 2, none⟩) (blk_add a _ ha)).trans zc2
        have z3 := (hb.2.cell (p := ⟨(a.add (k * 4)).block, (a.add (k * 4)).off + 3, none⟩) (blk_add a _ ha)).trans zc3
        clear zc0 zc1 zc2 zc3
        obtain ⟨yc0, yc1, yc2, yc3⟩ := hc'
        have y0 := (hb.2.cell (p := a'.add (k * 4)) (blk_add a' _ ha')).trans yc0
        have y1 := (hb.2.cell (p := ⟨(a'.add (k * 4)).block, (a'.add (k * 4)).off + 1, none⟩) (blk_add a' _ ha')).trans yc1
        have y2 := (hb.2.cell (p := ⟨(a'.add (k * 4)).block, (a'.add (k * 4)).off + 2, none⟩) (blk_add a' _ ha')).trans yc2
        have y3 := (hb.2.cell (p := ⟨(a'.add (k * 4)).block, (a'.add (k * 4)).off + 3, none⟩) (blk_add a' _ ha')).trans yc3
        clear yc0 yc1 yc2 yc3
        have hw := hb.2.size
        have u1 : (a'.add (k * 4)).block < wr.heap.size := by rw [add_block]; omega
        have u2 : a'.block < wr.heap.size := by omega
        have e1 := H.out.2.2.2.2 _ (List.getElem_mem hlt)
        have e2 := H'.out.2.2.2.2 _ (List.getElem_mem hlt')
        have P2 := (hb.alloc (.cells #[.string xs[k].nm, .slice xs[k].pp xs[k].pn xs[k].pc, .int .i64 xs[k].rt, .slice xs[k].bp xs[k].bn xs[k].bc] 41)).alloc (.cells #[.string ys[k].nm, .slice ys[k].pp ys[k].pn ys[k].pc, .int .i64 ys[k].rt, .slice ys[k].bp ys[k].bn ys[k].bc] 41)
        have hcc := HC.out xs[k] ys[k] _ (past_lasts lasts_Fn e1 P2) (past_lasts lasts_Fn e2 P2)
        have HCC := Lib.hid hcc
        clear e1 e2 hcc
        go_wp2_with fail
        refine HCC.out.mono ?_
        rintro e w2 ⟨bt, rfl, hbt, hb2⟩
        have P3 := P2.trans ⟨P2.size, hb2.mono P2.size⟩
        cases bt
        · go_wp2_with fail
          go_ret
          refine ⟨false, rfl, ?_, P3.2⟩
          simp only [Bool.false_eq_true, false_iff] at hbt ⊢
          intro e
          have e5 : (xs.map fnD)[k]? = (ys.map fnD)[k]? := by rw [e]
          rw [List.getElem?_map, List.getElem?_map, List.getElem?_eq_getElem hlt, List.getElem?_eq_getElem hlt'] at e5
          exact hbt (Option.some.inj e5)
        · have hq := hbt.1 rfl
          have HQ := Lib.hid hq
          clear hq hbt
          go_wp2_with fail
          exact ⟨⟨k + 1, by omega, by go_num, P3, Lib.hid (fun i h1 h2 h3 => by
            by_cases e : i = k
            · subst e; exact HQ.out
            · exact hE.out i h1 h2 (by omega))⟩, by simp [intOf]; omega⟩
      · go_wp2_with fail
        go_ret
        refine ⟨true, rfl, ?_, hb.2⟩
        simp only [true_iff]
        exact list_ext (by simpa using HL.out) (fun i h1 h2 => by simpa using hE.out i (by simpa using h1) (by simpa using h2) (Nat.lt_of_lt_of_le (by simpa using h1) (by omega)))
  · have hl2 : ((xs.length : Int) != (ys.length : Int)) = true := by simp; omega
    have HL := Lib.hid hl
    clear hl
    go_wp2_with fail
    go_ret
    exact ⟨false, rfl, by simp only [Bool.false_eq_true, false_iff]; intro e; have e2 := congrArg List.length e; rw [List.length_map, List.length_map] at e2; exact HL.out e2, Below.refl _ _⟩

theorem enters_sx : ∀ (args : Array Value) (w : World), (callFunc 45 args).run Try.prog w = .ok (.enter 45 args) w := fun _ _ => rfl
theorem enters_sf : ∀ (args : Array Value) (w : World), (callFunc 37 args).run Try.prog w = .ok (.enter 37 args) w := fun _ _ => rfl
set_option maxRecDepth 100000 in
set_option maxHeartbeats 1000000 in
theorem sameExtern_any (x y : LExt) (W : World) (h : ExtIn W.heap.size W x) (h' : ExtIn W.heap.size W y) :
    Calls Try.prog 45 #[.agg (extC x).toArray, .agg (extC y).toArray] W (Tells (extD x = extD y) W) := by
  obtain ⟨nm, pp, pn, pc, ps, rt⟩ := x
  obtain ⟨nm', pp', pn', pc', ps', rt'⟩ := y
  have H : Hid (ListIn intC NoMem W.heap.size W pp pn pc ps) := Lib.hid h
  have H' : Hid (ListIn intC NoMem W.heap.size W pp' pn' pc' ps') := Lib.hid h'
  clear h h'
  show Calls Try.prog 45 #[.agg #[.string nm, .slice pp pn pc, .int .i64 rt], .agg #[.string nm', .slice pp' pn' pc', .int .i64 rt']] W _
  have hP := (Past.refl (Nat.le_refl W.heap.size)).alloc (.cells #[.string nm, .slice pp pn pc, .int .i64 rt] 70)
  have A1 : Box W.heap.size [.string nm, .slice pp pn pc, .int .i64 rt] (W.alloc (.cells #[.string nm, .slice pp pn pc, .int .i64 rt] 70)) := Box.new W rfl _ _
  have z1 : (W.alloc (.cells #[.string nm, .slice pp pn pc, .int .i64 rt] 70)).heap.size = W.heap.size + 1 := by simp
  go_enter Try.func45, Try.ntmps45
  go_upto_region 1 with fail
  generalize (W.alloc (.cells #[.string nm, .slice pp pn pc, .int .i64 rt] 70)) = w1 at *
  have hP2 := hP.alloc (.cells #[.string nm', .slice pp' pn' pc', .int .i64 rt'] 70)
  have A2 := A1.alloc (.cells #[.string nm', .slice pp' pn' pc', .int .i64 rt'] 70)
  have B2 : Box (W.heap.size + 1) [.string nm', .slice pp' pn' pc', .int .i64 rt'] (w1.alloc (.cells #[.string nm', .slice pp' pn' pc', .int .i64 rt'] 70)) := Box.new w1 (by omega) _ _
  generalize (w1.alloc (.cells #[.string nm', .slice pp' pn' pc', .int .i64 rt'] 70)) = w2 at *
  have a0 := A2.get 0 _ rfl
  have a1 := A2.get 1 _ rfl
  have a2 := A2.get 2 _ rfl
  have b0 := B2.get 0 _ rfl
  have b1 := B2.get 1 _ rfl
  have b2 := B2.get 2 _ rfl
  clear A1 hP z1
  by_cases e0 : nm = nm'
  · subst e0
    by_cases e1 : rt = rt'
    · have g1 : (rt == rt') = true := by simp [e1]
      have E1 := Lib.hid e1
      clear e1
      go_wp2_with fail
      refine (EqInts_any w2 pp pp' pn pn' pc pc' ps ps' (H.out.lasts lasts_NoMem hP2.2 hP2.2.size) (H'.out.lasts lasts_NoMem hP2.2 hP2.2.size)).mono ?_
      rintro e w3 ⟨bt, rfl, hbt, hb3⟩
      have HBT := Lib.hid hbt
      clear hbt
      go_wp2_with fail
      go_ret
      refine ⟨bt, rfl, HBT.out.trans ?_, hP2.2.trans (hb3.mono hP2.size)⟩
      constructor
      · intro e
        show (⟨nm, ps, rt⟩ : PExt) = ⟨nm, ps', rt'⟩
        rw [E1.out, e]
      · exact fun e => congrArg PExt.ps e
    · have g1 : (rt == rt') = false := by simpa using e1
      have E1 := Lib.hid e1
      clear e1
      go_wp2_with fail
      go_ret
      exact ⟨false, rfl, by simp only [Bool.false_eq_true, false_iff]; exact fun e => E1.out (congrArg PExt.rt e), hP2.2⟩
  · have E0 := Lib.hid e0
    have g0 : ¬ nm.toList = nm'.toList := fun e => e0 (str_inj e)
    clear e0
    go_wp2_with fail
    go_ret
    exact ⟨false, rfl, by simp only [Bool.false_eq_true, false_iff]; exact fun e => E0.out (congrArg PExt.nm e), hP2.2⟩
end Go.Proofs.Ytpfeiolmkbibiaa
