/- The document's Text. -/
import Derived.Test.YtmampoakdjjbiaaGreatDoorSpZ
import Derived.Test.YtmampoakdjjbiaaGreatDoorSpTx
namespace Go.Proofs.YtmampoakdjjbiaaGreatDoor
open Go.RowKit Go.Maps
set_option linter.unusedVariables false
set_option linter.unusedSimpArgs false

theorem MWf.len {m : LMod} (h : MWf m) : LenOk (modD m) where
  vs := h.vs
  xs := fun x hx => by obtain ⟨y, hy, rfl⟩ := List.mem_map.1 hx; exact h.xs y hy
  fs := fun x hx => by obtain ⟨y, hy, rfl⟩ := List.mem_map.1 hx; exact h.fs y hy
  z := h.z
/-- Numbers that a machine's words hold. -/
structure NumOk (m : LMod) : Prop where
  vs : ∀ v ∈ m.vs, v.size ≤ 9223372036854775807
  is : ∀ f ∈ m.fs, ∀ c ∈ f.bs, ∀ x ∈ c.code, insW (insD x)
theorem NumOk.ins {m : LMod} (h : NumOk m) : ∀ f ∈ (modD m).fs, ∀ c ∈ f.bs, ∀ x ∈ c, insW x := by
  intro f hf c hc x hx
  obtain ⟨f', hf', rfl⟩ := List.mem_map.1 hf
  obtain ⟨c', hc', rfl⟩ := List.mem_map.1 hc
  obtain ⟨x', hx', rfl⟩ := List.mem_map.1 hx
  exact h.is f' hf' c' hc' x' hx'
def TwoF (W : World) (mv : List Value) (b : Nat) (fv : List Value) (w : World) : Prop := OneS W mv w ∧ Box b fv w ∧ W.heap.size ≤ b
theorem TwoF.later {W w w' : World} {mv fv : List Value} {b : Nat} (h : TwoF W mv b fv w) (hb : Below w.heap.size w w') : TwoF W mv b fv w' := ⟨h.1.later hb, h.2.1.later hb, h.2.2⟩
theorem TwoF.drew {W w : World} {mv fv : List Value} {b : Nat} (h : TwoF W mv b fv w) : TwoF W mv b fv w.drew := h.later (below_drew (Below.refl _ _))
/-- The steps of the text, as strings; all within bounds. -/
structure Steps (m : LMod) (D : PMod) (A1 A2 A3 : Nat → ByteArray) (A4 : Nat → Nat → ByteArray) (A5 : Nat → Nat → Nat → ByteArray) (T : ByteArray) : Prop where
  v0 : A1 0 = ⟨#[]⟩
  v : ∀ i (h : i < m.vs.length), A1 (i + 1) = A1 i ++ ⟨#[103, 108, 111, 98, 97, 108, 32]⟩ ++ m.vs[i].nm ++ ⟨#[32]⟩ ++ mkS (Lib.decDigits m.vs[i].size.toNat) ++ ⟨#[10]⟩
  x0 : A2 0 = A1 m.vs.length
  x : ∀ i (h : i < m.xs.length), A2 (i + 1) = A2 i ++ ⟨#[101, 120, 116, 101, 114, 110, 32]⟩ ++ mkS (headT m.xs[i].nm m.xs[i].ps m.xs[i].rt)
  f0 : A3 0 = A2 m.xs.length
  b0 : ∀ i (h : i < m.fs.length) f, m.fs[i] = f → A4 i 0 = A3 i ++ ⟨#[102, 117, 110, 99, 32]⟩ ++ mkS (headT f.nm f.ps f.rt)
  c0 : ∀ i (h : i < m.fs.length) f, m.fs[i] = f → ∀ b (hb : b < f.bs.length), A5 i b 0 = A4 i b ++ mkS (blockT (b : Int)) ++ ⟨#[58, 10]⟩
  c : ∀ i (h : i < m.fs.length) f, m.fs[i] = f → ∀ b (hb : b < f.bs.length) c, f.bs[b] = c → ∀ k (hk : k < c.code.length), A5 i b (k + 1) = A5 i b k ++ ⟨#[32, 32]⟩ ++ mkS (insT D (insD c.code[k])) ++ ⟨#[10]⟩
  b : ∀ i (h : i < m.fs.length) f, m.fs[i] = f → ∀ b (hb : b < f.bs.length) c, f.bs[b] = c → A4 i (b + 1) = A5 i b c.code.length
  f : ∀ i (h : i < m.fs.length) f, m.fs[i] = f → A3 (i + 1) = A4 i f.bs.length ++ ⟨#[101, 110, 100, 10]⟩
  t : A3 m.fs.length = T
  z1 : ∀ i, (A1 i).size ≤ 4398046511104
  z2 : ∀ i, (A2 i).size ≤ 4398046511104
  z3 : ∀ i, (A3 i).size ≤ 4398046511104
  z4 : ∀ i, i < m.fs.length → ∀ b, (A4 i b).size + 4 ≤ 4398046511104
  z5 : ∀ i (h : i < m.fs.length) f, m.fs[i] = f → ∀ b (hb : b < f.bs.length) k, (A5 i b k).size ≤ 4398046511104
def fnAt (m : LMod) (i : Nat) : PFn := ((modD m).fs[i]?).getD ⟨⟨#[]⟩, [], 0, []⟩
def blkAt (m : LMod) (i b : Nat) : List PIns := ((fnAt m i).bs[b]?).getD []
theorem fnAt_eq {m : LMod} {i : Nat} (h : i < m.fs.length) : fnAt m i = fnD m.fs[i] := by
  unfold fnAt
  rw [show (modD m).fs = m.fs.map fnD from rfl, List.getElem?_map, List.getElem?_eq_getElem h]
  rfl
theorem blkAt_eq {m : LMod} {i b : Nat} (h : i < m.fs.length) (hb : b < m.fs[i].bs.length) : blkAt m i b = blkD m.fs[i].bs[b] := by
  unfold blkAt
  rw [fnAt_eq h, show (fnD m.fs[i]).bs = m.fs[i].bs.map blkD from rfl, List.getElem?_map, List.getElem?_eq_getElem hb]
  rfl
theorem steps (m : LMod) (hw : MWf m) (hn : NumOk m) (hq : sayB wdB (modD m) = true) :
    Steps m (modD m) (fun i => mkS (tV (modD m) i)) (fun i => mkS (tX (modD m) i)) (fun i => mkS (tF (modD m) i)) (fun i b => mkS (tB (modD m) i (fnAt m i) b)) (fun i b k => mkS (tC (modD m) i (fnAt m i) b (blkAt m i b) k)) (mkS (modT (modD m))) := by
  have hl := modT_len hw.len hn.vs hn.ins hq
  have lf : (modD m).fs.length = m.fs.length := by show (m.fs.map fnD).length = _; simp
  have lx : (modD m).xs.length = m.xs.length := by show (m.xs.map extD).length = _; simp
  have lv : (modD m).vs.length = m.vs.length := rfl
  have gf : ∀ i (h : i < m.fs.length), (modD m).fs[i]'(by rw [lf]; exact h) = fnD m.fs[i] := fun i h => by simp [modD]
  have gx : ∀ i (h : i < m.xs.length), (modD m).xs[i]'(by rw [lx]; exact h) = extD m.xs[i] := fun i h => by simp [modD]
  have gb : ∀ i (h : i < m.fs.length) b (hb : b < m.fs[i].bs.length), (fnD m.fs[i]).bs[b]'(by simpa [fnD] using hb) = blkD m.fs[i].bs[b] := fun i h b hb => by simp [fnD]
  have lb : ∀ i (h : i < m.fs.length), (fnD m.fs[i]).bs.length = m.fs[i].bs.length := fun i h => by simp [fnD]
  have lc : ∀ c : LB, (blkD c).length = c.code.length := fun c => by simp [blkD]
  refine ⟨rfl, ?_, ?_, ?_, ?_, ?_, ?_, ?_, ?_, ?_, ?_, ?_, ?_, ?_, ?_, ?_⟩
  · intro i h
    simp only [mkS_lit]
    rw [← mkS_byt m.vs[i].nm]
    simp only [mkS_app, byt_mkS]
    rw [tV_step _ i h]
    congr 1
    simp [varT, decI, modD]
  · show mkS (tX (modD m) 0) = mkS (tV (modD m) m.vs.length)
    rw [tX_zero]; rfl
  · intro i h
    simp only [mkS_lit, mkS_app]
    rw [tX_step _ i (by rw [lx]; exact h), gx i h]
    congr 1
    simp [extT, extD]
  · show mkS (tF (modD m) 0) = mkS (tX (modD m) m.xs.length)
    rw [tF_zero, lx]
  · intro i h f e
    subst e
    simp only [mkS_lit, mkS_app]
    rw [fnAt_eq h, tB_zero]
    rfl
  · intro i h f e b hb
    subst e
    simp only [mkS_lit, mkS_app]
    rw [tC_zero]
  · intro i h f e b hb c e2 k hk
    subst e e2
    simp only [mkS_lit, mkS_app]
    rw [fnAt_eq h, blkAt_eq h hb, tC_step _ _ _ _ _ k (by rw [lc]; exact hk)]
    congr 1
    simp [lineT, blkD]
  · intro i h f e b hb c e2
    subst e e2
    rw [fnAt_eq h, blkAt_eq h hb, tB_step _ _ _ b (by rw [lb i h]; exact hb), gb i h b hb, lc]
  · intro i h f e
    subst e
    simp only [mkS_lit, mkS_app]
    rw [fnAt_eq h, tF_fn _ i (by rw [lf]; exact h), gf i h, lb i h]
  · show mkS (tF (modD m) m.fs.length) = _
    rw [← lf, tF_all]
  · intro i; rw [size_mkS]; exact Nat.le_trans (tV_le _ i) hl
  · intro i; rw [size_mkS]; exact Nat.le_trans (tX_le _ i) hl
  · intro i; rw [size_mkS]; exact Nat.le_trans (tF_le _ i) hl
  · intro i h b
    rw [size_mkS, fnAt_eq h, ← gf i h]
    exact Nat.le_trans (tB_le _ i (by rw [lf]; exact h) b) hl
  · intro i h f e b hb k
    subst e
    have := tC_le (modD m) i (by rw [lf]; exact h) b (by rw [gf i h, lb i h]; exact hb) k
    rw [size_mkS, fnAt_eq h, blkAt_eq h hb]
    simp only [gf i h] at this
    rw [gb i h b hb] at this
    exact Nat.le_trans this hl
theorem say_var {m : LMod} (hq : sayB wdB (modD m) = true) : ∀ v ∈ m.vs, 0 ≤ v.size := by
  intro v hv
  unfold sayB at hq
  simp only [Bool.and_eq_true] at hq
  have := List.all_eq_true.1 hq.1.1 v hv
  rw [Bool.and_eq_true] at this
  exact of_decide_eq_true this.2
theorem say_ins {m : LMod} (hq : sayB wdB (modD m) = true) : ∀ f ∈ m.fs, ∀ c ∈ f.bs, ∀ x ∈ c.code, insB (modD m) (insD x) = true := by
  intro f hf c hc x hx
  unfold sayB at hq
  simp only [Bool.and_eq_true] at hq
  have := List.all_eq_true.1 hq.2 (fnD f) (List.mem_map_of_mem hf)
  unfold fnB at this
  rw [Bool.and_eq_true] at this
  have := List.all_eq_true.1 this.2 (blkD c) (List.mem_map_of_mem hc)
  exact List.all_eq_true.1 this (insD x) (List.mem_map_of_mem hx)
theorem ins_small {m : LMod} (hw : MWf m) : ∀ f ∈ m.fs, ∀ c ∈ f.bs, ∀ x ∈ c.code, insZ (insD x) ≤ 1048576 := by
  intro f hf c hc x hx
  have h1 := fs_small m hw f hf
  have h2 := blksZ_mem (List.mem_map_of_mem (f := blkD) hc)
  have h3 := codeZ_mem (List.mem_map_of_mem (f := insD) hx)
  have h4 : fnZ (fnD f) = 1 + f.ps.length + blksZ (f.bs.map blkD) := rfl
  have h5 : codeZ (blkD c) = codeZ (c.code.map insD) := rfl
  omega
theorem ps_small {m : LMod} (hw : MWf m) : (∀ f ∈ m.fs, f.ps.length ≤ 1048576) ∧ (∀ x ∈ m.xs, x.ps.length ≤ 1048576) := by
  refine ⟨fun f hf => ?_, fun x hx => ?_⟩
  · have h1 := fs_small m hw f hf
    have h4 : fnZ (fnD f) = 1 + f.ps.length + blksZ (f.bs.map blkD) := rfl
    omega
  · have h1 : extZ (extD x) ≤ ((m.xs.map extD).map extZ).sum := sum_mem extZ (List.mem_map_of_mem hx)
    have h2 : m.vs.length + ((m.xs.map extD).map extZ).sum + ((m.fs.map fnD).map fnZ).sum ≤ 1048576 := hw.z
    have h4 : extZ (extD x) = 1 + x.ps.length := rfl
    omega
theorem block_at' (b : Nat) (h : b ≤ 1048576) (w : World) : Calls Tryz.prog 39 #[.int .i64 (b : Int)] w (StrV (mkS (blockT (b : Int))) w) := rBlock_any (b : Int) (by omega) (by omega) w
set_option maxRecDepth 100000 in
set_option maxHeartbeats 8000000 in
theorem rText_any (m : LMod) (W : World) (hm : ModIn W.heap.size W m) (hw : MWf m) (hn : NumOk m) :
    Calls Tryz.prog 11 #[.agg (modC m).toArray] W (StrV (if sayB wdB (modD m) = true then mkS (modT (modD m)) else ⟨#[]⟩) W) := by
  have hS1 : OneS W (modC m) (W.alloc (.cells (modC m).toArray 26)) := ⟨Box.new W rfl _ _, (Below.refl _ _).alloc (Nat.le_refl _) _⟩
  have cs := rSayable_any m (W.alloc (.cells (modC m).toArray 26)) (lasts_Mod _ _ _ _ _ hS1.2 hS1.2.size hm) hw
  have k1 : ∀ i (hi : i < m.xs.length) w, OneS W (modC m) w → Calls Tryz.prog 38 #[.string m.xs[i].nm, .slice m.xs[i].pp m.xs[i].pn m.xs[i].pc, .int .i64 m.xs[i].rt] w (StrV (mkS (headT m.xs[i].nm m.xs[i].ps m.xs[i].rt)) w) := fun i hi w hS =>
    rSaid_any _ _ _ _ _ _ (hw.xs _ (List.getElem_mem hi)) ((ps_small hw).2 _ (List.getElem_mem hi)) w (ListIn.lasts lasts_NoMem (hm.2.1.2.2.2.2 _ (List.getElem_mem hi)) hS.2 hS.2.size)
  have k2 : ∀ i (hi : i < m.fs.length) w, OneS W (modC m) w → Calls Tryz.prog 38 #[.string m.fs[i].nm, .slice m.fs[i].pp m.fs[i].pn m.fs[i].pc, .int .i64 m.fs[i].rt] w (StrV (mkS (headT m.fs[i].nm m.fs[i].ps m.fs[i].rt)) w) := fun i hi w hS =>
    rSaid_any _ _ _ _ _ _ (hw.fs _ (List.getElem_mem hi)) ((ps_small hw).1 _ (List.getElem_mem hi)) w (ListIn.lasts lasts_NoMem (hm.2.2.2.2.2.2 _ (List.getElem_mem hi)).1 hS.2 hS.2.size)
  have k3 : sayB wdB (modD m) = true → ∀ i (hi : i < m.fs.length) f, m.fs[i] = f → ∀ b (hb : b < f.bs.length) c, f.bs[b] = c → ∀ k (hk : k < c.code.length) w, OneS W (modC m) w → Calls Tryz.prog 40 #[.agg (modC m).toArray, .agg (liC c.code[k]).toArray] w (StrV (mkS (insT (modD m) (insD c.code[k]))) w) := fun hq i hi f e b hb c e2 k hk w hS => by
    subst e e2
    have a1 := List.getElem_mem hi
    have a2 := List.getElem_mem hb
    have a3 := List.getElem_mem hk
    exact rIns_any m _ w (lasts_Mod _ _ _ _ _ hS.2 hS.2.size hm) hw.len (lasts_Ins _ _ _ _ _ hS.2 hS.2.size ((hm.2.2.2.2.2.2 _ a1).2.2.2.2.2 _ a2 |>.2.2.2.2 _ a3)) (say_ins hq _ a1 _ a2 _ a3) (hn.is _ a1 _ a2 _ a3) (ins_small hw _ a1 _ a2 _ a3)
  have hst := steps m hw hn
  have hfb : ∀ f ∈ m.fs, f.bs.length ≤ 1048576 := fun f hf => by
    have h1 := fs_small m hw f hf
    have h2 := blksZ_len (f.bs.map blkD)
    rw [List.length_map] at h2
    have h4 : fnZ (fnD f) = 1 + f.ps.length + blksZ (f.bs.map blkD) := rfl
    omega
  obtain ⟨q, eq⟩ : ∃ q, sayB wdB (modD m) = q := ⟨_, rfl⟩
  have hsv := fun hq : q = true => say_var (m := m) (by rw [eq, hq])
  rw [eq] at cs hst k3 ⊢
  have HX := Lib.hid (And.intro hm (And.intro hn.vs (And.intro hsv hfb)))
  obtain ⟨vp, vn, vc, vs, xp, xn, xc, xs, fp, fn, fc, fs⟩ := m
  have cs : Calls Tryz.prog 9 #[.agg #[.slice vp vn vc, .slice xp xn xc, .slice fp fn fc]] (W.alloc (.cells #[.slice vp vn vc, .slice xp xn xc, .slice fp fn fc] 26)) (Ans (.bool q) (W.alloc (.cells #[.slice vp vn vc, .slice xp xn xc, .slice fp fn fc] 26))) := cs
  have HS : Hid (OneS W [.slice vp vn vc, .slice xp xn xc, .slice fp fn fc] (W.alloc (.cells #[.slice vp vn vc, .slice xp xn xc, .slice fp fn fc] 26))) := Lib.hid hS1
  obtain ⟨D, eD⟩ : ∃ D, modD ⟨vp, vn, vc, vs, xp, xn, xc, xs, fp, fn, fc, fs⟩ = D := ⟨_, rfl⟩
  have HX : Hid ((ListIn varC NoMem W.heap.size W vp vn vc vs ∧ ListIn extC ExtIn W.heap.size W xp xn xc xs ∧ ListIn fnC FnIn W.heap.size W fp fn fc fs) ∧ (∀ v ∈ vs, v.size ≤ 9223372036854775807) ∧ (q = true → ∀ v ∈ vs, 0 ≤ v.size) ∧ ∀ f ∈ fs, f.bs.length ≤ 1048576) := HX
  have hst : q = true → ∃ A1 A2 A3 A4 A5, Steps ⟨vp, vn, vc, vs, xp, xn, xc, xs, fp, fn, fc, fs⟩ D A1 A2 A3 A4 A5 (mkS (modT D)) := fun hq => by subst eD; exact ⟨_, _, _, _, _, hst hq⟩
  rw [eD] at ⊢ k3
  have k1 : ∀ i (hi : i < xs.length) w, OneS W [.slice vp vn vc, .slice xp xn xc, .slice fp fn fc] w → Calls Tryz.prog 38 #[.string xs[i].nm, .slice xs[i].pp xs[i].pn xs[i].pc, .int .i64 xs[i].rt] w (StrV (mkS (headT xs[i].nm xs[i].ps xs[i].rt)) w) := k1
  have k2 : ∀ i (hi : i < fs.length) w, OneS W [.slice vp vn vc, .slice xp xn xc, .slice fp fn fc] w → Calls Tryz.prog 38 #[.string fs[i].nm, .slice fs[i].pp fs[i].pn fs[i].pc, .int .i64 fs[i].rt] w (StrV (mkS (headT fs[i].nm fs[i].ps fs[i].rt)) w) := k2
  have k3 : q = true → ∀ i (hi : i < fs.length) f, fs[i] = f → ∀ b (hb : b < f.bs.length) c, f.bs[b] = c → ∀ k (hk : k < c.code.length) w, OneS W [.slice vp vn vc, .slice xp xn xc, .slice fp fn fc] w → Calls Tryz.prog 40 #[.agg #[.slice vp vn vc, .slice xp xn xc, .slice fp fn fc], .agg (liC c.code[k]).toArray] w (StrV (mkS (insT D (insD c.code[k]))) w) := k3
  have HK := Lib.hid (And.intro hst (And.intro k1 (And.intro k2 k3)))
  obtain ⟨R, eR⟩ : ∃ R, (if q = true then mkS (modT D) else ⟨#[]⟩) = R := ⟨_, rfl⟩
  have HR : Hid ((q = false → R = ⟨#[]⟩) ∧ (q = true → R = mkS (modT D))) := Lib.hid ⟨fun h => by rw [← eR, h]; rfl, fun h => by rw [← eR, h]; rfl⟩
  rw [eR]
  clear eR
  show Calls Tryz.prog 11 #[.agg #[.slice vp vn vc, .slice xp xn xc, .slice fp fn fc]] W _
  have hvn : vn ≤ 9223372036854775807 := by have h1 := HX.out.1.1.2.1; have h2 := HX.out.1.1.2.2.1; unfold maxLen at h2; omega
  have hxn : xn ≤ 9223372036854775807 := by have h1 := HX.out.1.2.1.2.1; have h2 := HX.out.1.2.1.2.2.1; unfold maxLen at h2; omega
  have hfn : fn ≤ 9223372036854775807 := by have h1 := HX.out.1.2.2.2.1; have h2 := HX.out.1.2.2.2.2.1; unfold maxLen at h2; omega
  have HL := Lib.hid (And.intro HX.out.1.1.1 (And.intro HX.out.1.2.1.1 HX.out.1.2.2.1))
  clear hst k1 k2 k3 hS1 hm hw hn hsv hfb eq eD
  go_enter Tryz.func11, Tryz.ntmps11
  go_wp2_with fail
  refine cs.mono ?_
  rintro e w1 ⟨rfl, hb1⟩
  replace HS := Lib.hid (HS.out.later hb1)
  clear cs hb1
  cases q
  case false =>
    go_wp2_with fail
    go_ret
    exact ⟨by rw [HR.out.1 (by first | rfl | trivial)]; rfl, HS.out.2⟩
  case true =>
  obtain ⟨A1, A2, A3, A4, A5, hst⟩ := HK.out.1 (by first | rfl | trivial)
  have hT := HR.out.2 (by first | rfl | trivial)
  obtain ⟨T, eT⟩ : ∃ T, mkS (modT D) = T := ⟨_, rfl⟩
  rw [eT] at hst hT
  have HT := Lib.hid hT
  have HST := Lib.hid hst
  clear eT hst hT
  go_wp2_with fail
  go_loopw [4, 5] (fun ts ti wr => ∃ i : Nat, i ≤ vn ∧ ti = .int .i64 i ∧ ts = .string (A1 i) ∧ OneS W [.slice vp vn vc, .slice xp xn xc, .slice fp fn fc] wr) (fun _ ti _ => vn - (intOf ti).toNat)
  case atStart => exact ⟨0, Nat.zero_le _, rfl, by rw [HST.out.v0], HS.out⟩
  case round =>
    obtain ⟨i, hi, rfl, rfl, hS⟩ := hrel
    generalize wr = wo at *
    have y0 := hS.1.get 0 _ rfl
    replace HS := Lib.hid hS
    clear hS
    by_cases hlt : i < vn
    · have hl2 : i < vs.length := by have := HL.out.1; omega
      obtain ⟨a, rfl, hab, c0, c1⟩ := row_V HX.out.1.1 i hl2
      have hsz := HST.out.z1 (i + 1)
      have hst := HST.out.v i hl2
      have hb0 := HX.out.2.1 _ (List.getElem_mem hl2)
      have hb1 := HX.out.2.2.1 (by first | rfl | trivial) _ (List.getElem_mem hl2)
      obtain ⟨v, ev⟩ : ∃ v, vs[i] = v := ⟨_, rfl⟩
      simp only [ev] at hst c0 c1 hb0 hb1
      clear ev
      obtain ⟨nm, sz⟩ := v
      simp only at hst c0 c1 hb0 hb1
      obtain ⟨k, rfl⟩ : ∃ k : Nat, sz = k := ⟨sz.toNat, by omega⟩
      rw [Int.toNat_natCast] at hst
      have C := Lib.hid (Digits_any k (by omega))
      obtain ⟨d, ed⟩ : ∃ d, mkS (Lib.decDigits k) = d := ⟨_, rfl⟩
      simp only [ed] at C hst
      obtain ⟨s, es⟩ : ∃ s, A1 i = s := ⟨_, rfl⟩
      rw [es] at hst ⊢
      rw [hst] at hsz
      simp only [ByteArray.size_append] at hsz
      replace hsz : s.size + 7 + nm.size + 1 + d.size + 1 ≤ 4398046511104 := hsz
      have hk9 : k ≤ 9223372036854775807 := by omega
      have HWK := Lib.hid (u64_of_int (n := (k : Int)) (by omega) (by omega)).symm
      have l1 : ¬ 9223372036854775807 < s.size + 7 := by omega
      have l2 : ¬ 9223372036854775807 < s.size + 7 + nm.size := by omega
      have l3 : ¬ 9223372036854775807 < s.size + 7 + nm.size + 1 := by omega
      have l4 : ¬ 9223372036854775807 < s.size + 7 + nm.size + 1 + d.size := by omega
      have l5 : ¬ 9223372036854775807 < s.size + 7 + nm.size + 1 + d.size + 1 := by omega
      have HC := Lib.hid (And.intro c0 c1)
      have HE := Lib.hid hst
      clear hst ed es c0 c1 hb0 hb1 hsz
      go_upto_region 8 with fail
      clear y0
      have HSS : ∀ w, OneS W [.slice (some a) vn vc, .slice xp xn xc, .slice fp fn fc] w → (w.cell? ⟨W.heap.size, 0, none⟩ = some (.slice (some a) vn vc) ∧ w.cell? (a.add (i * 2)) = some (.string nm) ∧ w.cell? ⟨(a.add (i * 2)).block, (a.add (i * 2)).off + 1, none⟩ = some (.int .i64 (k : Int))) := fun w h => ⟨h.1.get 0 _ rfl, (h.2.cell (p := a.add (i * 2)) (by rw [add_block]; exact hab)).trans HC.out.1, (h.2.cell (p := ⟨(a.add (i * 2)).block, (a.add (i * 2)).off + 1, none⟩) (by dsimp only; rw [add_block]; exact hab)).trans HC.out.2⟩
      obtain ⟨y0_, y1_, y2_⟩ := HSS wo HS.out
      have kh : OneS W [.slice (some a) vn vc, .slice xp xn xc, .slice fp fn fc] wo := HS.out
      have cA : ∀ w, ((w.cell? ⟨W.heap.size, 0, none⟩ = some (.slice (some a) vn vc) ∧ w.cell? (a.add (i * 2)) = some (.string nm) ∧ w.cell? ⟨(a.add (i * 2)).block, (a.add (i * 2)).off + 1, none⟩ = some (.int .i64 (k : Int))) ∧ OneS W [.slice (some a) vn vc, .slice xp xn xc, .slice fp fn fc] w) → Calls Tryz.prog 37 #[.int .u64 (IntKind.u64.wrap (k : Int))] w fun e w' => e = .returned (.string d) ∧ w'.cell? ⟨W.heap.size, 0, none⟩ = some (.slice (some a) vn vc) ∧ w'.cell? (a.add (i * 2)) = some (.string nm) ∧ w'.cell? ⟨(a.add (i * 2)).block, (a.add (i * 2)).off + 1, none⟩ = some (.int .i64 (k : Int)) ∧ OneS W [.slice (some a) vn vc, .slice xp xn xc, .slice fp fn fc] w' := by
        rintro w ⟨k, kh⟩
        refine ((fun w kh => HWK.out ▸ C.out w) w kh).mono ?_
        rintro e w' ⟨he, hb⟩
        have h2 := kh.later hb
        obtain ⟨s0, s1, s2⟩ := HSS w' h2
        exact ⟨he, s0, s1, s2, h2⟩
      clear HSS
      go_region_held3 (fun w' => w'.cell? ⟨W.heap.size, 0, none⟩ = some (.slice (some a) vn vc) ∧ w'.cell? (a.add (i * 2)) = some (.string nm) ∧ w'.cell? ⟨(a.add (i * 2)).block, (a.add (i * 2)).off + 1, none⟩ = some (.int .i64 (k : Int)))
        (((try dsimp only); (repeat' apply And.intro) <;> (first | (with_reducible assumption) | (rw [World.cell?_drew]; with_reducible assumption) | (simp <;> omega))))
        (first
          | ((with_reducible refine' (cA _ ?pre).mono ?_)
             case pre => (refine ⟨⟨?_, ?_, ?_⟩, ?_⟩ <;> (first | (with_reducible assumption) | (rw [World.cell?_drew]; with_reducible assumption) | (with_reducible apply OneS.drew; with_reducible assumption) | (simp <;> omega) | omega))
             rintro e wscA ⟨rfl, cA_0, cA_1, cA_2, sahcA⟩))
      all_goals
        have HS5 := Lib.hid sahcA
        go_wp2_with fail
        exact ⟨⟨i + 1, by omega, by go_num, by rw [HE.out], HS5.out⟩, by simp [intOf]; omega⟩
    · obtain rfl : vn = i := by omega
      have hA : A1 vn = A2 0 := by rw [HST.out.x0]; exact congrArg A1 HL.out.1
      rw [hA]
      go_wp2_with fail
      clear y0 hA
      go_loopw [4, 6] (fun ts ti wr => ∃ i : Nat, i ≤ xn ∧ ti = .int .i64 i ∧ ts = .string (A2 i) ∧ OneS W [.slice vp vn vc, .slice xp xn xc, .slice fp fn fc] wr) (fun _ ti _ => xn - (intOf ti).toNat)
      case atStart => exact ⟨0, Nat.zero_le _, rfl, rfl, HS.out⟩
      case round =>
        obtain ⟨i, hi, rfl, rfl, hS⟩ := hrel
        generalize wr = wp at *
        have y1 := hS.1.get 1 _ rfl
        replace HS := Lib.hid hS
        clear hS
        by_cases hlt : i < xn
        · have hl2 : i < xs.length := by have := HL.out.2.1; omega
          obtain ⟨a, rfl, hab, c0, c1, c2⟩ := row_X HX.out.1.2.1 i hl2
          have hsz := HST.out.z2 (i + 1)
          have hst := HST.out.x i hl2
          have kk := HK.out.2.1 i hl2
          obtain ⟨v, ev⟩ : ∃ v, xs[i] = v := ⟨_, rfl⟩
          simp only [ev] at hst c0 c1 c2 kk
          clear ev
          obtain ⟨nm, pp, pn, pc, ps, rt⟩ := v
          simp only at hst c0 c1 c2 kk
          obtain ⟨d, ed⟩ : ∃ d, mkS (headT nm ps rt) = d := ⟨_, rfl⟩
          simp only [ed] at kk hst
          obtain ⟨s, es⟩ : ∃ s, A2 i = s := ⟨_, rfl⟩
          rw [es] at hst ⊢
          rw [hst] at hsz
          simp only [ByteArray.size_append] at hsz
          replace hsz : s.size + 7 + d.size ≤ 4398046511104 := hsz
          have l1 : ¬ 9223372036854775807 < s.size + 7 := by omega
          have l2 : ¬ 9223372036854775807 < s.size + 7 + d.size := by omega
          have HC := Lib.hid (And.intro c0 (And.intro c1 (And.intro c2 kk)))
          have HE := Lib.hid hst
          clear hst ed es c0 c1 c2 kk hsz
          go_upto_region 12 with fail
          clear y1
          have HSS : ∀ w, OneS W [.slice vp vn vc, .slice (some a) xn xc, .slice fp fn fc] w → (w.cell? ⟨W.heap.size, 1, none⟩ = some (.slice (some a) xn xc) ∧ w.cell? (a.add (i * 3)) = some (.string nm) ∧ w.cell? ⟨(a.add (i * 3)).block, (a.add (i * 3)).off + 1, none⟩ = some (.slice pp pn pc) ∧ w.cell? ⟨(a.add (i * 3)).block, (a.add (i * 3)).off + 2, none⟩ = some (.int .i64 rt)) := fun w h => ⟨h.1.get 1 _ rfl, (h.2.cell (p := a.add (i * 3)) (by rw [add_block]; exact hab)).trans HC.out.1, (h.2.cell (p := ⟨(a.add (i * 3)).block, (a.add (i * 3)).off + 1, none⟩) (by dsimp only; rw [add_block]; exact hab)).trans HC.out.2.1, (h.2.cell (p := ⟨(a.add (i * 3)).block, (a.add (i * 3)).off + 2, none⟩) (by dsimp only; rw [add_block]; exact hab)).trans HC.out.2.2.1⟩
          obtain ⟨y0_, y1_, y2_, y3_⟩ := HSS wp HS.out
          have kh : OneS W [.slice vp vn vc, .slice (some a) xn xc, .slice fp fn fc] wp := HS.out
          have cA : ∀ w, ((w.cell? ⟨W.heap.size, 1, none⟩ = some (.slice (some a) xn xc) ∧ w.cell? (a.add (i * 3)) = some (.string nm) ∧ w.cell? ⟨(a.add (i * 3)).block, (a.add (i * 3)).off + 1, none⟩ = some (.slice pp pn pc) ∧ w.cell? ⟨(a.add (i * 3)).block, (a.add (i * 3)).off + 2, none⟩ = some (.int .i64 rt)) ∧ OneS W [.slice vp vn vc, .slice (some a) xn xc, .slice fp fn fc] w) → Calls Tryz.prog 38 #[.string nm, .slice pp pn pc, .int .i64 rt] w fun e w' => e = .returned (.string d) ∧ w'.cell? ⟨W.heap.size, 1, none⟩ = some (.slice (some a) xn xc) ∧ w'.cell? (a.add (i * 3)) = some (.string nm) ∧ w'.cell? ⟨(a.add (i * 3)).block, (a.add (i * 3)).off + 1, none⟩ = some (.slice pp pn pc) ∧ w'.cell? ⟨(a.add (i * 3)).block, (a.add (i * 3)).off + 2, none⟩ = some (.int .i64 rt) ∧ OneS W [.slice vp vn vc, .slice (some a) xn xc, .slice fp fn fc] w' := by
            rintro w ⟨k, kh⟩
            refine ((fun w kh => HC.out.2.2.2 w kh) w kh).mono ?_
            rintro e w' ⟨he, hb⟩
            have h2 := kh.later hb
            obtain ⟨s0, s1, s2, s3⟩ := HSS w' h2
            exact ⟨he, s0, s1, s2, s3, h2⟩
          clear HSS
          go_region_held3 (fun w' => w'.cell? ⟨W.heap.size, 1, none⟩ = some (.slice (some a) xn xc) ∧ w'.cell? (a.add (i * 3)) = some (.string nm) ∧ w'.cell? ⟨(a.add (i * 3)).block, (a.add (i * 3)).off + 1, none⟩ = some (.slice pp pn pc) ∧ w'.cell? ⟨(a.add (i * 3)).block, (a.add (i * 3)).off + 2, none⟩ = some (.int .i64 rt))
            (((try dsimp only); (repeat' apply And.intro) <;> (first | (with_reducible assumption) | (rw [World.cell?_drew]; with_reducible assumption) | (simp <;> omega))))
            (first
              | ((with_reducible refine' (cA _ ?pre).mono ?_)
                 case pre => (refine ⟨⟨?_, ?_, ?_, ?_⟩, ?_⟩ <;> (first | (with_reducible assumption) | (rw [World.cell?_drew]; with_reducible assumption) | (with_reducible apply OneS.drew; with_reducible assumption) | (simp <;> omega) | omega))
                 rintro e wscA ⟨rfl, cA_0, cA_1, cA_2, cA_3, sahcA⟩))
          all_goals
            have HS5 := Lib.hid sahcA
            go_wp2_with fail
            exact ⟨⟨i + 1, by omega, by go_num, by rw [HE.out], HS5.out⟩, by simp [intOf]; omega⟩
        · obtain rfl : xn = i := by omega
          have hA : A2 xn = A3 0 := by rw [HST.out.f0]; exact congrArg A2 HL.out.2.1
          rw [hA]
          go_wp2_with fail
          clear y1 hA
          go_loopw [4, 7] (fun ts ti wr => ∃ i : Nat, i ≤ fn ∧ ti = .int .i64 i ∧ ts = .string (A3 i) ∧ OneS W [.slice vp vn vc, .slice xp xn xc, .slice fp fn fc] wr) (fun _ ti _ => fn - (intOf ti).toNat)
          case atStart => exact ⟨0, Nat.zero_le _, rfl, rfl, HS.out⟩
          case round =>
            obtain ⟨i, hi, rfl, rfl, hS⟩ := hrel
            generalize wr = wq at *
            have y2 := hS.1.get 2 _ rfl
            replace HS := Lib.hid hS
            clear hS
            by_cases hlt : i < fn
            · have hl2 : i < fs.length := by have := HL.out.2.2; omega
              obtain ⟨a, rfl, hab, c0, c1, c2, c3⟩ := row_F HX.out.1.2.2 i hl2
              have hfi := HX.out.1.2.2.2.2.2.2 _ (List.getElem_mem hl2)
              have hfb := HX.out.2.2.2 _ (List.getElem_mem hl2)
              have kk := HK.out.2.2.1 i hl2
              obtain ⟨f, ef⟩ : ∃ v, fs[i] = v := ⟨_, rfl⟩
              have kI := HK.out.2.2.2 (by first | rfl | trivial) i hl2 f ef
              have s1 := HST.out.b0 i hl2 f ef
              have s2 := HST.out.c0 i hl2 f ef
              have s3 := HST.out.c i hl2 f ef
              have s4 := HST.out.b i hl2 f ef
              have s5 := HST.out.f i hl2 f ef
              have z4 := HST.out.z4 i hl2
              have z5 := HST.out.z5 i hl2 f ef
              simp only [ef] at hfi hfb kk c0 c1 c2 c3
              clear ef
              obtain ⟨nm, pp, pn, pc, ps, rt, bp, bn, bc, bs⟩ := f
              simp only at hfb kk kI s1 s2 s3 s4 s5 z5 c0 c1 c2 c3
              have hbi : ListIn blkC BlkIn W.heap.size W bp bn bc bs := hfi.2
              obtain ⟨d, ed⟩ : ∃ d, mkS (headT nm ps rt) = d := ⟨_, rfl⟩
              simp only [ed] at kk s1
              obtain ⟨s, es⟩ : ∃ s, A3 i = s := ⟨_, rfl⟩
              rw [es] at s1 ⊢
              have hsz := z4 0
              rw [s1] at hsz
              simp only [ByteArray.size_append] at hsz
              replace hsz : s.size + 5 + d.size + 4 ≤ 4398046511104 := hsz
              have l1 : ¬ 9223372036854775807 < s.size + 5 := by omega
              have l2 : ¬ 9223372036854775807 < s.size + 5 + d.size := by omega
              have hbn : bn = bs.length := hbi.1
              have hbn2 : bn ≤ 1048576 := by omega
              have c0 := (HS.out.2.cell (p := a.add (i * 4)) (by rw [add_block]; exact hab)).trans c0
              have c1 := (HS.out.2.cell (p := ⟨(a.add (i * 4)).block, (a.add (i * 4)).off + 1, none⟩) (by dsimp only; rw [add_block]; exact hab)).trans c1
              have c2 := (HS.out.2.cell (p := ⟨(a.add (i * 4)).block, (a.add (i * 4)).off + 2, none⟩) (by dsimp only; rw [add_block]; exact hab)).trans c2
              have c3 := (HS.out.2.cell (p := ⟨(a.add (i * 4)).block, (a.add (i * 4)).off + 3, none⟩) (by dsimp only; rw [add_block]; exact hab)).trans c3
              have HC := Lib.hid (And.intro s1 (And.intro s2 (And.intro s3 (And.intro s4 (And.intro s5 (And.intro z4 (And.intro z5 (And.intro kI (And.intro hbi hbn)))))))))
              have hSF : TwoF W [.slice vp vn vc, .slice xp xn xc, .slice (some a) fn fc] wq.heap.size [.string nm, .slice pp pn pc, .int .i64 rt, .slice bp bn bc] (wq.alloc (.cells #[.string nm, .slice pp pn pc, .int .i64 rt, .slice bp bn bc] 45)) := ⟨HS.out.later ((Below.refl _ _).alloc (Nat.le_refl _) _), Box.new wq rfl _ _, HS.out.2.size⟩
              have HSF := Lib.hid hSF
              have HKK := Lib.hid kk
              clear kk s1 s2 s3 s4 s5 z4 z5 kI hbi hbn hsz ed es hfi hfb hSF
              go_upto_region 17 with fail
              obtain ⟨w2, ew2⟩ : ∃ w2, (wq.alloc (.cells #[.string nm, .slice pp pn pc, .int .i64 rt, .slice bp bn bc] 45)) = w2 := ⟨_, rfl⟩
              rw [ew2] at HSF ⊢
              clear ew2 c0 c1 c2 c3 y2
              obtain ⟨G, eG⟩ : ∃ G, wq.heap.size = G := ⟨_, rfl⟩
              rw [eG] at HSF ⊢
              have HWG := Lib.hid eG
              clear eG
              have x0 := HSF.out.2.1.get 0 _ rfl
              have x1 := HSF.out.2.1.get 1 _ rfl
              have x2 := HSF.out.2.1.get 2 _ rfl
              have kk := HKK.out w2 HSF.out.1
              go_wp2_with fail
              refine kk.mono ?_
              rintro e w3 ⟨rfl, hb3⟩
              replace HSF := Lib.hid (HSF.out.later hb3)
              clear kk hb3 x0 x1 x2
              go_wp2_with fail
              rw [← HC.out.1]
              go_loopw [4, 9] (fun ts ti wr => ∃ b : Nat, b ≤ bn ∧ ti = .int .i64 b ∧ ts = .string (A4 i b) ∧ TwoF W [.slice vp vn vc, .slice xp xn xc, .slice (some a) fn fc] G [.string nm, .slice pp pn pc, .int .i64 rt, .slice bp bn bc] wr) (fun _ ti _ => bn - (intOf ti).toNat)
              case atStart => exact ⟨0, Nat.zero_le _, rfl, rfl, HSF.out⟩
              case round =>
                obtain ⟨b, hbi, rfl, rfl, hS⟩ := hrel
                generalize wr = wx at *
                have x3 := hS.2.1.get 3 _ rfl
                replace HSF := Lib.hid hS
                clear hS
                by_cases hltb : b < bn
                · have hl3 : b < bs.length := by have := HC.out.2.2.2.2.2.2.2.2.2; omega
                  obtain ⟨g, rfl, hgb, g0⟩ := row_B HC.out.2.2.2.2.2.2.2.2.1 b hl3
                  have hci := HC.out.2.2.2.2.2.2.2.2.1.2.2.2.2 _ (List.getElem_mem hl3)
                  have s2 := HC.out.2.1 b hl3
                  obtain ⟨c, ec⟩ : ∃ c, bs[b] = c := ⟨_, rfl⟩
                  have s3 := HC.out.2.2.1 b hl3 c ec
                  have s4 := HC.out.2.2.2.1 b hl3 c ec
                  have z5 := HC.out.2.2.2.2.2.2.1 b hl3
                  have kI := HC.out.2.2.2.2.2.2.2.1 b hl3 c ec
                  simp only [ec] at g0 hci
                  clear ec
                  obtain ⟨cp, cn, cc, code⟩ := c
                  simp only at g0 s3 s4 kI
                  have hci : ListIn liC InsIn W.heap.size W cp cn cc code := hci
                  have cB := Lib.hid (block_at' b)
                  obtain ⟨d, ed⟩ : ∃ d, mkS (blockT (b : Int)) = d := ⟨_, rfl⟩
                  simp only [ed] at cB s2
                  obtain ⟨s', es⟩ : ∃ s, A4 i b = s := ⟨_, rfl⟩
                  rw [es] at s2 ⊢
                  have hsz := z5 0
                  rw [s2] at hsz
                  simp only [ByteArray.size_append] at hsz
                  replace hsz : s'.size + d.size + 2 ≤ 4398046511104 := hsz
                  have l1 : ¬ 9223372036854775807 < s'.size + d.size := by omega
                  have l2 : ¬ 9223372036854775807 < s'.size + d.size + 2 := by omega
                  have hb9 : b ≤ 1048576 := by omega
                  have hcn : cn = code.length := hci.1
                  have hcn2 : cn ≤ 9223372036854775807 := by have h1 := hci.2.1; have h2 := hci.2.2.1; unfold maxLen at h2; omega
                  have HD := Lib.hid (And.intro s3 (And.intro s4 (And.intro z5 (And.intro kI (And.intro hci (And.intro hcn g0))))))
                  have hs2 := s2
                  clear s3 s4 z5 kI hci hcn hsz ed es s2 g0
                  go_wp2_with fail
                  refine (cB.out (by omega) wx).mono ?_
                  rintro e w4 ⟨rfl, hb4⟩
                  replace HSF := Lib.hid (HSF.out.later hb4)
                  clear hb4 x3
                  go_wp2_with fail
                  rw [← hs2]
                  clear hs2
                  go_loopw [4, 10] (fun ts ti wr => ∃ k : Nat, k ≤ cn ∧ ti = .int .i64 k ∧ ts = .string (A5 i b k) ∧ TwoF W [.slice vp vn vc, .slice xp xn xc, .slice (some a) fn fc] G [.string nm, .slice pp pn pc, .int .i64 rt, .slice (some g) bn bc] wr) (fun _ ti _ => cn - (intOf ti).toNat)
                  case atStart => exact ⟨0, Nat.zero_le _, rfl, rfl, HSF.out⟩
                  case round =>
                    obtain ⟨k, hk, rfl, rfl, hS⟩ := hrel
                    generalize wr = wy at *
                    have x3 := hS.2.1.get 3 _ rfl
                    have g0 := (hS.1.2.cell (p := g.add b) (by rw [add_block]; exact hgb)).trans HD.out.2.2.2.2.2.2
                    replace HSF := Lib.hid hS
                    clear hS
                    by_cases hltk : k < cn
                    · have hl4 : k < code.length := by have := HD.out.2.2.2.2.2.1; omega
                      obtain ⟨h_, rfl, hhb, i0, i1, i2, i3, i4, i5, i6⟩ := row_L HD.out.2.2.2.2.1 k hl4
                      have s3 := HD.out.1 k hl4
                      have z5 := HD.out.2.2.1 (k + 1)
                      have kI := HD.out.2.2.2.1 k hl4
                      obtain ⟨x, ex⟩ : ∃ x, code[k] = x := ⟨_, rfl⟩
                      simp only [ex] at s3 kI i0 i1 i2 i3 i4 i5 i6
                      clear ex
                      obtain ⟨d, ed⟩ : ∃ d, mkS (insT D (insD x)) = d := ⟨_, rfl⟩
                      simp only [ed] at kI s3
                      obtain ⟨⟨op, rg, ty, nn, fl, ap, al, ac, tp, tl, tc, rs⟩, ts⟩ := x
                      simp only at i0 i1 i2 i3 i4 i5 i6
                      have kI : ∀ w, OneS W [.slice vp vn vc, .slice xp xn xc, .slice (some a) fn fc] w → Calls Tryz.prog 40 #[.agg #[.slice vp vn vc, .slice xp xn xc, .slice (some a) fn fc], .agg #[.int .i64 op, .int .i64 rg, .int .i64 ty, .int .i64 nn, .int .i64 fl, .slice ap al ac, .slice tp tl tc]] w (StrV d w) := kI
                      obtain ⟨s'', es⟩ : ∃ s, A5 i b k = s := ⟨_, rfl⟩
                      rw [es] at s3 ⊢
                      have hsz := z5
                      rw [s3] at hsz
                      simp only [ByteArray.size_append] at hsz
                      replace hsz : s''.size + 2 + d.size + 1 ≤ 4398046511104 := hsz
                      have l1 : ¬ 9223372036854775807 < s''.size + 2 := by omega
                      have l2 : ¬ 9223372036854775807 < s''.size + 2 + d.size := by omega
                      have l3 : ¬ 9223372036854775807 < s''.size + 2 + d.size + 1 := by omega
                      have HI := Lib.hid (And.intro i0 (And.intro i1 (And.intro i2 (And.intro i3 (And.intro i4 (And.intro i5 (And.intro i6 (And.intro kI s3))))))))
                      clear kI s3 z5 hsz ed es i0 i1 i2 i3 i4 i5 i6
                      go_upto_region 25 with fail
                      clear x3 g0
                      have HS := HSF
                      have HSS : ∀ w, TwoF W [.slice vp vn vc, .slice xp xn xc, .slice (some a) fn fc] G [.string nm, .slice pp pn pc, .int .i64 rt, .slice (some g) bn bc] w → (w.cell? ⟨W.heap.size, 0, none⟩ = some (.slice vp vn vc) ∧ w.cell? ⟨W.heap.size, 1, none⟩ = some (.slice xp xn xc) ∧ w.cell? ⟨W.heap.size, 2, none⟩ = some (.slice (some a) fn fc) ∧ w.cell? ⟨G, 3, none⟩ = some (.slice (some g) bn bc) ∧ w.cell? (g.add b) = some (.slice (some h_) cn cc) ∧ w.cell? (h_.add (k * 7)) = some (.int .i64 op) ∧ w.cell? ⟨(h_.add (k * 7)).block, (h_.add (k * 7)).off + 1, none⟩ = some (.int .i64 rg) ∧ w.cell? ⟨(h_.add (k * 7)).block, (h_.add (k * 7)).off + 2, none⟩ = some (.int .i64 ty) ∧ w.cell? ⟨(h_.add (k * 7)).block, (h_.add (k * 7)).off + 3, none⟩ = some (.int .i64 nn) ∧ w.cell? ⟨(h_.add (k * 7)).block, (h_.add (k * 7)).off + 4, none⟩ = some (.int .i64 fl) ∧ w.cell? ⟨(h_.add (k * 7)).block, (h_.add (k * 7)).off + 5, none⟩ = some (.slice ap al ac) ∧ w.cell? ⟨(h_.add (k * 7)).block, (h_.add (k * 7)).off + 6, none⟩ = some (.slice tp tl tc)) := fun w h => ⟨h.1.1.get 0 _ rfl, h.1.1.get 1 _ rfl, h.1.1.get 2 _ rfl, h.2.1.get 3 _ rfl, (h.1.2.cell (p := g.add b) (by rw [add_block]; exact hgb)).trans HD.out.2.2.2.2.2.2, (h.1.2.cell (p := (h_.add (k * 7))) (by rw [add_block]; exact hhb)).trans HI.out.1, (h.1.2.cell (p := ⟨(h_.add (k * 7)).block, (h_.add (k * 7)).off + 1, none⟩) (by dsimp only; rw [add_block]; exact hhb)).trans HI.out.2.1, (h.1.2.cell (p := ⟨(h_.add (k * 7)).block, (h_.add (k * 7)).off + 2, none⟩) (by dsimp only; rw [add_block]; exact hhb)).trans HI.out.2.2.1, (h.1.2.cell (p := ⟨(h_.add (k * 7)).block, (h_.add (k * 7)).off + 3, none⟩) (by dsimp only; rw [add_block]; exact hhb)).trans HI.out.2.2.2.1, (h.1.2.cell (p := ⟨(h_.add (k * 7)).block, (h_.add (k * 7)).off + 4, none⟩) (by dsimp only; rw [add_block]; exact hhb)).trans HI.out.2.2.2.2.1, (h.1.2.cell (p := ⟨(h_.add (k * 7)).block, (h_.add (k * 7)).off + 5, none⟩) (by dsimp only; rw [add_block]; exact hhb)).trans HI.out.2.2.2.2.2.1, (h.1.2.cell (p := ⟨(h_.add (k * 7)).block, (h_.add (k * 7)).off + 6, none⟩) (by dsimp only; rw [add_block]; exact hhb)).trans HI.out.2.2.2.2.2.2.1⟩
                      obtain ⟨y0_, y1_, y2_, y3_, y4_, y5_, y6_, y7_, y8_, y9_, y10_, y11_⟩ := HSS wy HS.out
                      have kh : TwoF W [.slice vp vn vc, .slice xp xn xc, .slice (some a) fn fc] G [.string nm, .slice pp pn pc, .int .i64 rt, .slice (some g) bn bc] wy := HS.out
                      have cA : ∀ w, ((w.cell? ⟨W.heap.size, 0, none⟩ = some (.slice vp vn vc) ∧ w.cell? ⟨W.heap.size, 1, none⟩ = some (.slice xp xn xc) ∧ w.cell? ⟨W.heap.size, 2, none⟩ = some (.slice (some a) fn fc) ∧ w.cell? ⟨G, 3, none⟩ = some (.slice (some g) bn bc) ∧ w.cell? (g.add b) = some (.slice (some h_) cn cc) ∧ w.cell? (h_.add (k * 7)) = some (.int .i64 op) ∧ w.cell? ⟨(h_.add (k * 7)).block, (h_.add (k * 7)).off + 1, none⟩ = some (.int .i64 rg) ∧ w.cell? ⟨(h_.add (k * 7)).block, (h_.add (k * 7)).off + 2, none⟩ = some (.int .i64 ty) ∧ w.cell? ⟨(h_.add (k * 7)).block, (h_.add (k * 7)).off + 3, none⟩ = some (.int .i64 nn) ∧ w.cell? ⟨(h_.add (k * 7)).block, (h_.add (k * 7)).off + 4, none⟩ = some (.int .i64 fl) ∧ w.cell? ⟨(h_.add (k * 7)).block, (h_.add (k * 7)).off + 5, none⟩ = some (.slice ap al ac) ∧ w.cell? ⟨(h_.add (k * 7)).block, (h_.add (k * 7)).off + 6, none⟩ = some (.slice tp tl tc)) ∧ TwoF W [.slice vp vn vc, .slice xp xn xc, .slice (some a) fn fc] G [.string nm, .slice pp pn pc, .int .i64 rt, .slice (some g) bn bc] w) → Calls Tryz.prog 40 #[.agg #[.slice vp vn vc, .slice xp xn xc, .slice (some a) fn fc], .agg #[.int .i64 op, .int .i64 rg, .int .i64 ty, .int .i64 nn, .int .i64 fl, .slice ap al ac, .slice tp tl tc]] w fun e w' => e = .returned (.string d) ∧ w'.cell? ⟨W.heap.size, 0, none⟩ = some (.slice vp vn vc) ∧ w'.cell? ⟨W.heap.size, 1, none⟩ = some (.slice xp xn xc) ∧ w'.cell? ⟨W.heap.size, 2, none⟩ = some (.slice (some a) fn fc) ∧ w'.cell? ⟨G, 3, none⟩ = some (.slice (some g) bn bc) ∧ w'.cell? (g.add b) = some (.slice (some h_) cn cc) ∧ w'.cell? (h_.add (k * 7)) = some (.int .i64 op) ∧ w'.cell? ⟨(h_.add (k * 7)).block, (h_.add (k * 7)).off + 1, none⟩ = some (.int .i64 rg) ∧ w'.cell? ⟨(h_.add (k * 7)).block, (h_.add (k * 7)).off + 2, none⟩ = some (.int .i64 ty) ∧ w'.cell? ⟨(h_.add (k * 7)).block, (h_.add (k * 7)).off + 3, none⟩ = some (.int .i64 nn) ∧ w'.cell? ⟨(h_.add (k * 7)).block, (h_.add (k * 7)).off + 4, none⟩ = some (.int .i64 fl) ∧ w'.cell? ⟨(h_.add (k * 7)).block, (h_.add (k * 7)).off + 5, none⟩ = some (.slice ap al ac) ∧ w'.cell? ⟨(h_.add (k * 7)).block, (h_.add (k * 7)).off + 6, none⟩ = some (.slice tp tl tc) ∧ TwoF W [.slice vp vn vc, .slice xp xn xc, .slice (some a) fn fc] G [.string nm, .slice pp pn pc, .int .i64 rt, .slice (some g) bn bc] w' := by
                        rintro w ⟨k, kh⟩
                        refine ((fun w (kh : TwoF W [.slice vp vn vc, .slice xp xn xc, .slice (some a) fn fc] G [.string nm, .slice pp pn pc, .int .i64 rt, .slice (some g) bn bc] w) => HI.out.2.2.2.2.2.2.2.1 w kh.1) w kh).mono ?_
                        rintro e w' ⟨he, hb⟩
                        have h2 := kh.later hb
                        obtain ⟨s0, s1, s2, s3, s4, s5, s6, s7, s8, s9, s10, s11⟩ := HSS w' h2
                        exact ⟨he, s0, s1, s2, s3, s4, s5, s6, s7, s8, s9, s10, s11, h2⟩
                      clear HSS
                      go_region_held3 (fun w' => w'.cell? ⟨W.heap.size, 0, none⟩ = some (.slice vp vn vc) ∧ w'.cell? ⟨W.heap.size, 1, none⟩ = some (.slice xp xn xc) ∧ w'.cell? ⟨W.heap.size, 2, none⟩ = some (.slice (some a) fn fc) ∧ w'.cell? ⟨G, 3, none⟩ = some (.slice (some g) bn bc) ∧ w'.cell? (g.add b) = some (.slice (some h_) cn cc) ∧ w'.cell? (h_.add (k * 7)) = some (.int .i64 op) ∧ w'.cell? ⟨(h_.add (k * 7)).block, (h_.add (k * 7)).off + 1, none⟩ = some (.int .i64 rg) ∧ w'.cell? ⟨(h_.add (k * 7)).block, (h_.add (k * 7)).off + 2, none⟩ = some (.int .i64 ty) ∧ w'.cell? ⟨(h_.add (k * 7)).block, (h_.add (k * 7)).off + 3, none⟩ = some (.int .i64 nn) ∧ w'.cell? ⟨(h_.add (k * 7)).block, (h_.add (k * 7)).off + 4, none⟩ = some (.int .i64 fl) ∧ w'.cell? ⟨(h_.add (k * 7)).block, (h_.add (k * 7)).off + 5, none⟩ = some (.slice ap al ac) ∧ w'.cell? ⟨(h_.add (k * 7)).block, (h_.add (k * 7)).off + 6, none⟩ = some (.slice tp tl tc))
                        (((try dsimp only); (repeat' apply And.intro) <;> (first | (with_reducible assumption) | (rw [World.cell?_drew]; with_reducible assumption) | (simp <;> omega))))
                        (first
                          | ((with_reducible refine' (cA _ ?pre).mono ?_)
                             case pre => (refine ⟨⟨?_, ?_, ?_, ?_, ?_, ?_, ?_, ?_, ?_, ?_, ?_, ?_⟩, ?_⟩ <;> (first | (with_reducible assumption) | (rw [World.cell?_drew]; with_reducible assumption) | (with_reducible apply TwoF.drew; with_reducible assumption) | (simp <;> omega) | omega))
                             rintro e wscA ⟨rfl, cA_0, cA_1, cA_2, cA_3, cA_4, cA_5, cA_6, cA_7, cA_8, cA_9, cA_10, cA_11, sahcA⟩))
                      all_goals
                        have HS5 := Lib.hid sahcA
                        go_wp2_with fail
                        exact ⟨⟨k + 1, by omega, by go_num, by rw [HI.out.2.2.2.2.2.2.2.2], HS5.out⟩, by simp [intOf]; omega⟩
                    · obtain rfl : cn = k := by omega
                      have hA : A5 i b cn = A4 i (b + 1) := by rw [HD.out.2.1, HD.out.2.2.2.2.2.1]
                      rw [hA]
                      go_wp2_with fail
                      exact ⟨⟨b + 1, by omega, by go_num, rfl, HSF.out⟩, by simp [intOf]; omega⟩
                · obtain rfl : bn = b := by omega
                  have hA : A3 (i + 1) = A4 i bn ++ ⟨#[101, 110, 100, 10]⟩ := by rw [HC.out.2.2.2.2.1, HC.out.2.2.2.2.2.2.2.2.2]
                  have hsz := HC.out.2.2.2.2.2.1 bn
                  have HA := Lib.hid hA
                  clear hA
                  go_wp2_with fail
                  exact ⟨⟨i + 1, by omega, by go_num, by rw [HA.out], HSF.out.1⟩, by simp [intOf]; omega⟩
            · obtain rfl : fn = i := by omega
              have hA : A3 fn = T := by rw [← HST.out.t]; exact congrArg A3 HL.out.2.2
              have HA := Lib.hid hA
              clear hA
              go_wp2_with fail
              go_ret
              exact ⟨by rw [HT.out, ← HA.out]; rfl, HS.out.2⟩
end Go.Proofs.YtmampoakdjjbiaaGreatDoor
