/- Package spell: Sayable. -/
import Derived.Test.YtmampoakdjjbiaaGreatDoorSpC
namespace Go.Proofs.YtmampoakdjjbiaaGreatDoor
open Go.RowKit Go.Maps
set_option linter.unusedVariables false
set_option linter.unusedSimpArgs false

def wdB (l : Tx) : Bool := decide (0 < l.length) && decide (wordSize l = l.length)
theorem word_any (s : ByteArray) (hs : s.size ≤ 1048576) (W : World) : Calls Tryz.prog 46 #[.string s] W fun e w' => e = .returned (.bool (wdB (byt s))) ∧ w' = W := Word_any s (by omega) W
/-- What the calls need of a module beside where it lies. -/
structure MWf (m : LMod) : Prop where
  vs : ∀ v ∈ m.vs, v.nm.size ≤ 1048576
  xs : ∀ x ∈ m.xs, x.nm.size ≤ 1048576
  fs : ∀ f ∈ m.fs, f.nm.size ≤ 1048576
  ns : ∀ f ∈ m.fs, ∀ c ∈ f.bs, ∀ x ∈ c.code, -9223372036854775808 ≤ x.1.n ∧ x.1.n ≤ 9223372036854775807
  z : modZ (modD m) ≤ 1048576
set_option maxRecDepth 100000 in
theorem isVar_any (v : PVar) (hs : v.nm.size ≤ 1048576) (W : World) : Calls Tryz.prog 17 #[.agg #[.string v.nm, .int .i64 v.size]] W (Ans (.bool (wdB (byt v.nm) && decide (0 ≤ v.size))) W) := by
  have c := word_any v.nm hs
  obtain ⟨nm, sz⟩ := v
  simp only at c ⊢
  obtain ⟨q, eq⟩ : ∃ q, wdB (byt nm) = q := ⟨_, rfl⟩
  simp only [eq] at c ⊢
  clear eq hs
  go_enter Tryz.func17, Tryz.ntmps17
  go_wp2_with fail
  refine (c _).mono ?_
  rintro e w2 ⟨rfl, rfl⟩
  cases q
  · go_wp2_with fail
    go_ret
    exact ⟨rfl, (Below.refl _ _).alloc (Nat.le_refl _) _⟩
  · by_cases h : 0 ≤ sz
    · have d : decide ((0 : Int) ≤ sz) = true := by simp [h]
      have H := Lib.hid h
      clear h
      go_wp2_with fail
      go_ret
      exact ⟨ret_bool (by simp [H.out]), (Below.refl _ _).alloc (Nat.le_refl _) _⟩
    · have d : decide ((0 : Int) ≤ sz) = false := by simp; omega
      have H := Lib.hid h
      clear h
      go_wp2_with fail
      go_ret
      exact ⟨ret_bool (by simp [H.out]), (Below.refl _ _).alloc (Nat.le_refl _) _⟩
set_option maxRecDepth 100000 in
theorem isHead_any (nm : ByteArray) (pp : Option Addr) (pn pc : Nat) (ps : List Int) (rt : Int) (hs : nm.size ≤ 1048576) (W : World) (h : ListIn intC NoMem W.heap.size W pp pn pc ps) :
    Calls Tryz.prog 22 #[.string nm, .slice pp pn pc, .int .i64 rt] W (Ans (.bool (headB wdB nm ps rt)) W) := by
  have c0 := word_any nm hs
  have c1 : Calls Tryz.prog 51 #[.slice pp pn pc, .func (.func 41) #[] #[]] W (Ans (.bool (ps.all tyB)) W) :=
    each_I lasts_NoMem tyB pp pn pc ps W h _ #[] (fun _ _ => rfl) (fun i hi w' hb' => (isType_any ps[i] w').mono (fun e w2 ⟨h1, h2⟩ => ⟨h1, by rw [h2]; exact Below.refl _ _⟩))
  have c2 := isType_any rt
  unfold headB
  obtain ⟨q0, e0⟩ : ∃ q, wdB (byt nm) = q := ⟨_, rfl⟩
  obtain ⟨q1, e1⟩ : ∃ q, ps.all tyB = q := ⟨_, rfl⟩
  obtain ⟨q2, e2⟩ : ∃ q, tyB rt = q := ⟨_, rfl⟩
  simp only [e0] at c0
  simp only [e1] at c1
  simp only [e2] at c2
  rw [e0, e1, e2]
  clear e0 e1 e2 h hs
  go_enter Tryz.func22, Tryz.ntmps22
  go_wp2_with fail
  refine (c0 _).mono ?_
  rintro e w2 ⟨rfl, rfl⟩
  cases q0
  case false =>
    go_wp2_with fail
    go_ret
    exact ⟨rfl, Below.refl _ _⟩
  go_wp2_with fail
  refine c1.mono ?_
  rintro e w3 ⟨rfl, hb⟩
  have HB := Lib.hid hb
  clear c1 hb
  cases q1
  case false =>
    go_wp2_with fail
    go_ret
    exact ⟨rfl, HB.out⟩
  go_wp2_with fail
  refine (c2 _).mono ?_
  rintro e w4 ⟨rfl, rfl⟩
  cases q2
  all_goals
    go_wp2_with fail
    go_ret
    exact ⟨rfl, HB.out⟩
set_option maxRecDepth 100000 in
theorem isExtern_any (x : LExt) (hs : x.nm.size ≤ 1048576) (W : World) (h : ExtIn W.heap.size W x) :
    Calls Tryz.prog 19 #[.agg #[.string x.nm, .slice x.pp x.pn x.pc, .int .i64 x.rt]] W (Ans (.bool (headB wdB x.nm x.ps x.rt)) W) := by
  have hb : Below W.heap.size W (W.alloc (.cells #[.string x.nm, .slice x.pp x.pn x.pc, .int .i64 x.rt] 47)) := (Below.refl _ _).alloc (Nat.le_refl _) _
  have c := isHead_any x.nm x.pp x.pn x.pc x.ps x.rt hs (W.alloc (.cells #[.string x.nm, .slice x.pp x.pn x.pc, .int .i64 x.rt] 47)) (ListIn.lasts lasts_NoMem h hb hb.size)
  have HB := Lib.hid hb
  obtain ⟨nm, pp, pn, pc, ps, rt⟩ := x
  simp only at c HB ⊢
  clear h hb hs
  go_enter Tryz.func19, Tryz.ntmps19
  go_wp2_with fail
  refine c.mono ?_
  rintro e w2 ⟨rfl, hb⟩
  have HB2 := Lib.hid (HB.out.trans (hb.mono HB.out.size))
  clear hb c
  go_wp2_with fail
  go_ret
  exact ⟨rfl, HB2.out⟩
/-- A box of the call's own. -/
def OneS (W : World) (mv : List Value) (w : World) : Prop := Box W.heap.size mv w ∧ Below W.heap.size W w
theorem OneS.later {W w w' : World} {mv : List Value} (h : OneS W mv w) (hb : Below w.heap.size w w') : OneS W mv w' := ⟨h.1.later hb, h.2.trans (hb.mono h.2.size)⟩
theorem OneS.alloc {W w : World} {mv : List Value} (h : OneS W mv w) (o : Obj) : OneS W mv (w.alloc o) := h.later ((Below.refl _ _).alloc (Nat.le_refl _) o)
section
variable (m : LMod) (W : World) (hO : Ops W) (hm : ModIn W.heap.size W m) (hw : MWf m)
include hO hm hw
set_option maxRecDepth 100000 in
theorem say111_any (x : LI) (hx : InsIn W.heap.size W x) (hn : -9223372036854775808 ≤ x.1.n ∧ x.1.n ≤ 9223372036854775807) (w : World) (hS : OneS W (modC m) w) :
    Calls Tryz.prog 26 #[.agg #[.int .i64 x.1.op, .int .i64 x.1.reg, .int .i64 x.1.ty, .int .i64 x.1.n, .int .i64 x.1.fl, .slice x.1.ap x.1.al x.1.ac, .slice x.1.tp x.1.tl x.1.tc], .pointer (some ⟨W.heap.size, 0, none⟩)] w (Ans (.bool (insB (modD m) (insD x))) w) := by
  have hb1 : Below w.heap.size w (w.alloc (.cells (liC x).toArray 39)) := (Below.refl _ _).alloc (Nat.le_refl _) _
  have hS1 := hS.later hb1
  have c := isInstr_any m x (w.alloc (.cells (liC x).toArray 39)) (hO.later hS1.2) (lasts_Mod _ _ _ _ _ hS1.2 hS1.2.size hm) (lasts_Ins _ _ _ _ _ hS1.2 hS1.2.size hx) hw.z hn.1 hn.2
  have HB := Lib.hid hb1
  obtain ⟨q, eq⟩ : ∃ q, insB (modD m) (insD x) = q := ⟨_, rfl⟩
  rw [eq] at c ⊢
  clear eq hS1 hb1 hO hm hw hx hn
  obtain ⟨⟨op, rg, ty, nn, fl, ap, al, ac, tp, tl, tc, rs⟩, ts⟩ := x
  obtain ⟨vp, vn, vc, vs, xp, xn, xc, xs, fp, fn, fc, fs⟩ := m
  have y0 := hS.1.get 0 _ rfl
  have y1 := hS.1.get 1 _ rfl
  have y2 := hS.1.get 2 _ rfl
  try simp only at y0 y1 y2
  have hlw : W.heap.size < w.heap.size := hS.1.1
  have c : Calls Tryz.prog 27 #[.agg #[.slice vp vn vc, .slice xp xn xc, .slice fp fn fc], .agg #[.int .i64 op, .int .i64 rg, .int .i64 ty, .int .i64 nn, .int .i64 fl, .slice ap al ac, .slice tp tl tc]] (w.alloc (.cells #[.int .i64 op, .int .i64 rg, .int .i64 ty, .int .i64 nn, .int .i64 fl, .slice ap al ac, .slice tp tl tc] 39)) (Ans (.bool q) _) := c
  have HB : Hid (Below w.heap.size w (w.alloc (.cells #[.int .i64 op, .int .i64 rg, .int .i64 ty, .int .i64 nn, .int .i64 fl, .slice ap al ac, .slice tp tl tc] 39))) := HB
  clear hS
  simp only
  go_enter Tryz.func26, Tryz.ntmps26
  go_wp2_with fail
  refine c.mono ?_
  rintro e w2 ⟨rfl, hb⟩
  have HB2 := Lib.hid (HB.out.trans (hb.mono HB.out.size))
  clear hb c
  go_wp2_with fail
  go_ret
  exact ⟨rfl, HB2.out⟩
set_option maxRecDepth 100000 in
theorem say11_any (b : LB) (hx : BlkIn W.heap.size W b) (hn : ∀ x ∈ b.code, -9223372036854775808 ≤ x.1.n ∧ x.1.n ≤ 9223372036854775807) (w : World) (hS : OneS W (modC m) w) :
    Calls Tryz.prog 24 #[.agg #[.slice b.p b.n b.k], .pointer (some ⟨W.heap.size, 0, none⟩)] w (Ans (.bool ((blkD b).all (insB (modD m)))) w) := by
  have hb1 : Below w.heap.size w (w.alloc (.cells #[.slice b.p b.n b.k] 42)) := (Below.refl _ _).alloc (Nat.le_refl _) _
  have hS1 := hS.later hb1
  have hall : (blkD b).all (insB (modD m)) = b.code.all fun x => insB (modD m) (insD x) := by unfold blkD; rw [List.all_map]; rfl
  have c := each_L lasts_Ins (fun x => insB (modD m) (insD x)) b.p b.n b.k b.code (w.alloc (.cells #[.slice b.p b.n b.k] 42)) (ListIn.lasts lasts_Ins hx hS1.2 hS1.2.size) 26 #[.pointer (some ⟨W.heap.size, 0, none⟩)] (fun _ _ => rfl) (fun i hi w' hb' => say111_any m W hO hm hw b.code[i] (hx.2.2.2.2 _ (List.getElem_mem hi)) (hn _ (List.getElem_mem hi)) w' (hS1.later hb'))
  rw [← hall] at c
  have HB := Lib.hid hb1
  obtain ⟨q, eq⟩ : ∃ q, (blkD b).all (insB (modD m)) = q := ⟨_, rfl⟩
  rw [eq] at c ⊢
  clear eq hall hS1 hS hb1 hO hm hw hx hn
  obtain ⟨p, n, k, code⟩ := b
  simp only at c HB ⊢
  go_enter Tryz.func24, Tryz.ntmps24
  go_wp2_with fail
  refine c.mono ?_
  rintro e w2 ⟨rfl, hb⟩
  have HB2 := Lib.hid (HB.out.trans (hb.mono HB.out.size))
  clear hb c
  go_wp2_with fail
  go_ret
  exact ⟨rfl, HB2.out⟩
set_option maxRecDepth 100000 in
theorem say1_any (f : LFn) (hx : FnIn W.heap.size W f) (hs : f.nm.size ≤ 1048576) (hn : ∀ c ∈ f.bs, ∀ x ∈ c.code, -9223372036854775808 ≤ x.1.n ∧ x.1.n ≤ 9223372036854775807) (w : World) (hS : OneS W (modC m) w) :
    Calls Tryz.prog 21 #[.agg #[.string f.nm, .slice f.pp f.pn f.pc, .int .i64 f.rt, .slice f.bp f.bn f.bc], .pointer (some ⟨W.heap.size, 0, none⟩)] w (Ans (.bool (fnB wdB (modD m) (fnD f))) w) := by
  have hb1 : Below w.heap.size w (w.alloc (.cells (fnC f).toArray 45)) := (Below.refl _ _).alloc (Nat.le_refl _) _
  have hS1 := hS.later hb1
  have hbx := Box.new w rfl (fnC f) 45
  have hall : fnB wdB (modD m) (fnD f) = (headB wdB f.nm f.ps f.rt && f.bs.all fun c => (blkD c).all (insB (modD m))) := by
    unfold fnB fnD
    simp only [List.all_map]
    rfl
  have c1 := isHead_any f.nm f.pp f.pn f.pc f.ps f.rt hs (w.alloc (.cells (fnC f).toArray 45)) (hx.1.lasts lasts_NoMem hS1.2 hS1.2.size)
  have c2 : ∀ w', Below (w.alloc (.cells (fnC f).toArray 45)).heap.size (w.alloc (.cells (fnC f).toArray 45)) w' → Calls Tryz.prog 23 #[.slice f.bp f.bn f.bc, .func (.func 24) #[] #[.pointer (some ⟨W.heap.size, 0, none⟩)]] w' (Ans (.bool (f.bs.all fun c => (blkD c).all (insB (modD m)))) w') := fun w' hb' => by
    have hS2 := hS1.later hb'
    exact each_B lasts_Blk (fun c => (blkD c).all (insB (modD m))) f.bp f.bn f.bc f.bs w' (hx.2.lasts lasts_Blk hS2.2 hS2.2.size) 24 #[.pointer (some ⟨W.heap.size, 0, none⟩)] (fun _ _ => rfl) (fun i hi w'' hb'' => say11_any m W hO hm hw f.bs[i] (hx.2.2.2.2.2 _ (List.getElem_mem hi)) (hn _ (List.getElem_mem hi)) w'' (hS2.later hb''))
  rw [hall]
  have HB := Lib.hid (And.intro hb1 hbx)
  obtain ⟨q1, e1⟩ : ∃ q, headB wdB f.nm f.ps f.rt = q := ⟨_, rfl⟩
  obtain ⟨q2, e2⟩ : ∃ q, (f.bs.all fun c => (blkD c).all (insB (modD m))) = q := ⟨_, rfl⟩
  simp only [e1] at c1 ⊢
  simp only [e2] at c2 ⊢
  have HC := Lib.hid c2
  clear e1 e2 hall hS1 hS hb1 hbx hO hm hw hx hn hs c2
  obtain ⟨nm, pp, pn, pc, ps, rt, bp, bn, bc, bs⟩ := f
  have c1 : Calls Tryz.prog 22 #[.string nm, .slice pp pn pc, .int .i64 rt] (w.alloc (.cells #[.string nm, .slice pp pn pc, .int .i64 rt, .slice bp bn bc] 45)) (Ans (.bool q1) _) := c1
  have HB : Hid (Below w.heap.size w (w.alloc (.cells #[.string nm, .slice pp pn pc, .int .i64 rt, .slice bp bn bc] 45)) ∧ Box w.heap.size [.string nm, .slice pp pn pc, .int .i64 rt, .slice bp bn bc] (w.alloc (.cells #[.string nm, .slice pp pn pc, .int .i64 rt, .slice bp bn bc] 45))) := HB
  have HC : Hid (∀ w', Below (w.alloc (.cells #[.string nm, .slice pp pn pc, .int .i64 rt, .slice bp bn bc] 45)).heap.size (w.alloc (.cells #[.string nm, .slice pp pn pc, .int .i64 rt, .slice bp bn bc] 45)) w' → Calls Tryz.prog 23 #[.slice bp bn bc, .func (.func 24) #[] #[.pointer (some ⟨W.heap.size, 0, none⟩)]] w' (Ans (.bool q2) w')) := HC
  simp only
  go_enter Tryz.func21, Tryz.ntmps21
  go_wp2_with fail
  refine c1.mono ?_
  rintro e w2 ⟨rfl, hb⟩
  have c2 := HC.out w2 hb
  have HB2 := Lib.hid (And.intro (HB.out.1.trans (hb.mono HB.out.1.size)) (HB.out.2.later hb))
  clear hb c1
  cases q1
  case false =>
    go_wp2_with fail
    go_ret
    exact ⟨rfl, HB2.out.1⟩
  have y3 := HB2.out.2.get 3 _ rfl
  go_wp2_with fail
  refine c2.mono ?_
  rintro e w3 ⟨rfl, hb⟩
  have HB3 := Lib.hid (HB2.out.1.trans (hb.mono HB2.out.1.size))
  clear hb c2 y3
  cases q2
  all_goals
    go_wp2_with fail
    go_ret
    exact ⟨rfl, HB3.out⟩
set_option maxRecDepth 100000 in
theorem Sayable_any : Calls Tryz.prog 8 #[.agg (modC m).toArray] W (Ans (.bool (sayB wdB (modD m))) W) := by
  have hb1 : Below W.heap.size W (W.alloc (.cells (modC m).toArray 26)) := (Below.refl _ _).alloc (Nat.le_refl _) _
  have hS1 : OneS W (modC m) (W.alloc (.cells (modC m).toArray 26)) := ⟨Box.new W rfl _ _, hb1⟩
  have hall : sayB wdB (modD m) = ((m.vs.all fun v => wdB (byt v.nm) && decide (0 ≤ v.size)) && (m.xs.all fun x => headB wdB x.nm x.ps x.rt) && m.fs.all fun f => fnB wdB (modD m) (fnD f)) := by
    unfold sayB modD
    simp only [List.all_map]
    rfl
  have c1 := each_V lasts_NoMem (fun v => wdB (byt v.nm) && decide (0 ≤ v.size)) m.vp m.vn m.vc m.vs (W.alloc (.cells (modC m).toArray 26)) (hm.1.lasts lasts_NoMem hS1.2 hS1.2.size) 17 #[] (fun _ _ => rfl) (fun i hi w' hb' => isVar_any m.vs[i] (hw.vs _ (List.getElem_mem hi)) w')
  have c2 : ∀ w', OneS W (modC m) w' → Calls Tryz.prog 18 #[.slice m.xp m.xn m.xc, .func (.func 19) #[] #[]] w' (Ans (.bool (m.xs.all fun x => headB wdB x.nm x.ps x.rt)) w') := fun w' hS => 
    each_X lasts_Ext (fun x => headB wdB x.nm x.ps x.rt) m.xp m.xn m.xc m.xs w' (hm.2.1.lasts lasts_Ext hS.2 hS.2.size) 19 #[] (fun _ _ => rfl) (fun i hi w'' hb'' => isExtern_any m.xs[i] (hw.xs _ (List.getElem_mem hi)) w'' (lasts_Ext _ _ _ _ _ (hS.later hb'').2 (hS.later hb'').2.size (hm.2.1.2.2.2.2 _ (List.getElem_mem hi))))
  have c3 : ∀ w', OneS W (modC m) w' → Calls Tryz.prog 20 #[.slice m.fp m.fn m.fc, .func (.func 21) #[] #[.pointer (some ⟨W.heap.size, 0, none⟩)]] w' (Ans (.bool (m.fs.all fun f => fnB wdB (modD m) (fnD f))) w') := fun w' hS =>
    each_F lasts_Fn (fun f => fnB wdB (modD m) (fnD f)) m.fp m.fn m.fc m.fs w' (hm.2.2.lasts lasts_Fn hS.2 hS.2.size) 21 #[.pointer (some ⟨W.heap.size, 0, none⟩)] (fun _ _ => rfl) (fun i hi w'' hb'' => say1_any m W hO hm hw m.fs[i] (hm.2.2.2.2.2.2 _ (List.getElem_mem hi)) (hw.fs _ (List.getElem_mem hi)) (hw.ns _ (List.getElem_mem hi)) w'' (hS.later hb''))
  rw [hall]
  obtain ⟨q1, e1⟩ : ∃ q, (m.vs.all fun v => wdB (byt v.nm) && decide (0 ≤ v.size)) = q := ⟨_, rfl⟩
  obtain ⟨q2, e2⟩ : ∃ q, (m.xs.all fun x => headB wdB x.nm x.ps x.rt) = q := ⟨_, rfl⟩
  obtain ⟨q3, e3⟩ : ∃ q, (m.fs.all fun f => fnB wdB (modD m) (fnD f)) = q := ⟨_, rfl⟩
  simp only [e1] at c1 ⊢
  simp only [e2] at c2 ⊢
  simp only [e3] at c3 ⊢
  have HC := Lib.hid (And.intro c2 c3)
  have HS := Lib.hid hS1
  clear e1 e2 e3 hall hS1 hb1 hO hm hw c2 c3
  obtain ⟨vp, vn, vc, vs, xp, xn, xc, xs, fp, fn, fc, fs⟩ := m
  have c1 : Calls Tryz.prog 16 #[.slice vp vn vc, .func (.func 17) #[] #[]] (W.alloc (.cells #[.slice vp vn vc, .slice xp xn xc, .slice fp fn fc] 26)) (Ans (.bool q1) _) := c1
  have HS : Hid (OneS W [.slice vp vn vc, .slice xp xn xc, .slice fp fn fc] (W.alloc (.cells #[.slice vp vn vc, .slice xp xn xc, .slice fp fn fc] 26))) := HS
  have HC : Hid ((∀ w', OneS W [.slice vp vn vc, .slice xp xn xc, .slice fp fn fc] w' → Calls Tryz.prog 18 #[.slice xp xn xc, .func (.func 19) #[] #[]] w' (Ans (.bool q2) w')) ∧ (∀ w', OneS W [.slice vp vn vc, .slice xp xn xc, .slice fp fn fc] w' → Calls Tryz.prog 20 #[.slice fp fn fc, .func (.func 21) #[] #[.pointer (some ⟨W.heap.size, 0, none⟩)]] w' (Ans (.bool q3) w'))) := HC
  show Calls Tryz.prog 8 #[.agg #[.slice vp vn vc, .slice xp xn xc, .slice fp fn fc]] W _
  go_enter Tryz.func8, Tryz.ntmps8
  go_wp2_with fail
  refine c1.mono ?_
  rintro e w2 ⟨rfl, hb⟩
  have HS := Lib.hid (HS.out.later hb)
  clear hb c1
  cases q1
  case false =>
    go_wp2_with fail
    go_ret
    exact ⟨rfl, HS.out.2⟩
  have y0 := HS.out.1.get 0 _ rfl
  have y1 := HS.out.1.get 1 _ rfl
  have y2 := HS.out.1.get 2 _ rfl
  have c2 := HC.out.1 w2 HS.out
  go_wp2_with fail
  refine c2.mono ?_
  rintro e w3 ⟨rfl, hb⟩
  have HS := Lib.hid (HS.out.later hb)
  clear hb c2 y0 y1 y2
  cases q2
  case false =>
    go_wp2_with fail
    go_ret
    exact ⟨rfl, HS.out.2⟩
  have y0 := HS.out.1.get 0 _ rfl
  have y1 := HS.out.1.get 1 _ rfl
  have y2 := HS.out.1.get 2 _ rfl
  have c3 := HC.out.2 w3 HS.out
  go_wp2_with fail
  refine c3.mono ?_
  rintro e w4 ⟨rfl, hb⟩
  have HS := Lib.hid (HS.out.later hb)
  clear hb c3 y0 y1 y2
  cases q3
  all_goals
    go_wp2_with fail
    go_ret
    exact ⟨rfl, HS.out.2⟩
end
end Go.Proofs.YtmampoakdjjbiaaGreatDoor
