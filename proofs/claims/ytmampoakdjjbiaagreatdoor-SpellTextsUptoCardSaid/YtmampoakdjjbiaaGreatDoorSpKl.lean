/- The program's Text. -/
import Derived.Test.YtmampoakdjjbiaaGreatDoorSpKk
namespace Go.Proofs.YtmampoakdjjbiaaGreatDoor
open Go.RowKit Go.Maps
set_option linter.unusedVariables false
set_option linter.unusedSimpArgs false

theorem say_wd {m : LMod} (hq : sayB wdB (modD m) = true) : ∀ v ∈ m.vs, byt v.nm ≠ [] := by
  intro v hv
  unfold sayB at hq
  simp only [Bool.and_eq_true] at hq
  have := List.all_eq_true.1 hq.1.1 v hv
  rw [Bool.and_eq_true] at this
  have h := this.1
  unfold wdB at h
  rw [Bool.and_eq_true] at h
  have h := of_decide_eq_true h.1
  intro e
  rw [e] at h
  simp at h
theorem lay_var (v : PVar) (hv : byt v.nm ≠ []) : layT [[103, 108, 111, 98, 97, 108], byt v.nm, decI v.size] ++ [10] = varT v := by
  rw [layT_cons (by simp)]
  simp only [List.map_cons, List.map_nil, List.flatten_cons, List.flatten_nil, beh_ne hv, beh_ne (dec_ne _), decI]
  unfold varT
  simp [decI]
theorem tV_line (m : LMod) (hq : sayB wdB (modD m) = true) (i : Nat) (h : i < m.vs.length) (k : Nat) (hk : m.vs[i].size = (k : Int)) : tV (modD m) (i + 1) = tV (modD m) i ++ layT ([(⟨#[103, 108, 111, 98, 97, 108]⟩ : ByteArray), m.vs[i].nm, mkS (Lib.decDigits k)].map byt) ++ [10] := by
  rw [tV_step (modD m) i h, List.append_assoc]
  congr 1
  rw [show (modD m).vs[i]'h = m.vs[i] from rfl, ← lay_var _ (say_wd hq _ (List.getElem_mem h))]
  show layT [[103, 108, 111, 98, 97, 108], byt m.vs[i].nm, decI m.vs[i].size] ++ [10] = layT [[103, 108, 111, 98, 97, 108], byt m.vs[i].nm, byt (mkS (Lib.decDigits k))] ++ [10]
  rw [byt_mkS, hk]
  rfl
theorem tX_line (m : LMod) (hq : sayB wdB (modD m) = true) (i : Nat) (h : i < m.xs.length) : tX (modD m) (i + 1) = tX (modD m) i ++ layT ([(⟨#[101, 120, 116, 101, 114, 110]⟩ : ByteArray), mkS (hdT m.xs[i].nm m.xs[i].ps), mkS (typeT m.xs[i].rt)].map byt) ++ [10] := by
  have lx : (modD m).xs.length = m.xs.length := by show (m.xs.map extD).length = _; simp
  have gx : (modD m).xs[i]'(by rw [lx]; exact h) = extD m.xs[i] := by simp [modD]
  rw [tX_step (modD m) i (by rw [lx]; exact h), gx, List.append_assoc]
  congr 1
  show _ = layT [[101, 120, 116, 101, 114, 110], byt (mkS (hdT m.xs[i].nm m.xs[i].ps)), byt (mkS (typeT m.xs[i].rt))] ++ [10]
  rw [byt_mkS, byt_mkS, lay_head _ (by simp) _ _ _ ((say_rt hq).2 _ (List.getElem_mem h))]
  show extT (extD m.xs[i]) = _
  unfold extT extD
  simp
theorem build_sp (w : World) (vp xp fp : Option Addr) (vn vc xn xc fn fc : Nat) : (Instr.build 71 #[(0, .agg #[.slice vp vn vc, .slice xp xn xc, .slice fp fn fc])]).run Tryz.prog w = .ok (.agg #[.slice vp vn vc, .slice xp xn xc, .slice fp fn fc, .pointer none, .slice none 0 0]) w := run_build _ _ _ _ (by kernel_rfl)
set_option maxRecDepth 100000 in
set_option maxHeartbeats 8000000 in
theorem Text_any (m : LMod) (W0 : World) (hO : Ops W0) (hT : TabOk W0) (hm : ModIn W0.heap.size W0 m) (hw : MWf m) (hn : NumOk m) :
    Calls Tryz.prog 10 #[.agg (modC m).toArray] W0 (StrV (if sayB wdB (modD m) = true then mkS (modT (modD m)) else ⟨#[]⟩) W0) := by
  have hal0 : Below W0.heap.size W0 (W0.alloc (.cells (modC m).toArray 26)) := (Below.refl _ _).alloc (Nat.le_refl _) _
  have cs := Sayable_any m (W0.alloc (.cells (modC m).toArray 26)) (hO.later hal0) (lasts_Mod _ _ _ _ _ hal0 hal0.size hm) hw
  obtain ⟨q, eq⟩ : ∃ q, sayB wdB (modD m) = q := ⟨_, rfl⟩
  obtain ⟨R, eR⟩ : ∃ R, (if sayB wdB (modD m) = true then mkS (modT (modD m)) else ⟨#[]⟩) = R := ⟨_, rfl⟩
  have HR : Hid ((q = false → R = ⟨#[]⟩) ∧ (q = true → R = mkS (modT (modD m)))) := Lib.hid ⟨fun h => by rw [← eR, eq, h]; rfl, fun h => by rw [← eR, eq, h]; rfl⟩
  rw [eR]
  rw [eq] at cs
  have HQ := Lib.hid eq
  clear eR eq
  -- what the calls answer
  have cV : q = true → ∀ i (hi : i < m.vs.length), ∃ k : Nat, m.vs[i].size = (k : Int) ∧ (k ≤ 9223372036854775807) ∧ ∀ b (hbB : W0.heap.size ≠ b), (∀ w, SP m W0 b (tV (modD m) i) w → Calls Tryz.prog 33 #[.int .i64 (k : Int)] w (StrV (mkS (Lib.decDigits k)) w)) ∧ ∀ v w, SP m W0 b (tV (modD m) i) w → SL w v [(⟨#[103, 108, 111, 98, 97, 108]⟩ : ByteArray), m.vs[i].nm, mkS (Lib.decDigits k)] → Calls Tryz.prog 32 #[.pointer (some ⟨b, 0, none⟩), v] w fun e w' => e = .returned (.tuple #[]) ∧ Hid (SP m W0 b (tV (modD m) (i + 1)) w' ∧ Kp b w w') := fun hq i hi => by
    have hl := modT_len hw.len hn.vs hn.ins (by rw [HQ.out, hq])
    have h0 := say_var (m := m) (by rw [HQ.out, hq]) _ (List.getElem_mem hi)
    have h9 := hn.vs _ (List.getElem_mem hi)
    obtain ⟨k, hk⟩ : ∃ k : Nat, m.vs[i].size = k := ⟨m.vs[i].size.toNat, by omega⟩
    refine ⟨k, hk, by omega, fun b hbB => ⟨fun w h => itoa_any k (by omega) w (hT.later h.2), fun v w h hs => ?_⟩⟩
    exact lineP m W0 b _ w v _ h hs (by simp) (tV (modD m) (i + 1)) (tV_line m (by rw [HQ.out, hq]) i hi k hk) (Nat.le_trans (tV_le _ _) hl)
  have cX : q = true → ∀ i (hi : i < m.xs.length) b, (∀ w, SP m W0 b (tX (modD m) i) w → Calls Tryz.prog 34 #[.string m.xs[i].nm, .slice m.xs[i].pp m.xs[i].pn m.xs[i].pc] w (StrV (mkS (hdT m.xs[i].nm m.xs[i].ps)) w)) ∧ (∀ w, SP m W0 b (tX (modD m) i) w → Calls Tryz.prog 12 #[.int .i64 m.xs[i].rt] w (StrV (mkS (typeT m.xs[i].rt)) w)) ∧ ∀ v w, SP m W0 b (tX (modD m) i) w → SL w v [(⟨#[101, 120, 116, 101, 114, 110]⟩ : ByteArray), mkS (hdT m.xs[i].nm m.xs[i].ps), mkS (typeT m.xs[i].rt)] → Calls Tryz.prog 32 #[.pointer (some ⟨b, 0, none⟩), v] w fun e w' => e = .returned (.tuple #[]) ∧ Hid (SP m W0 b (tX (modD m) (i + 1)) w' ∧ Kp b w w') := fun hq i hi b => by
    have hl := modT_len hw.len hn.vs hn.ins (by rw [HQ.out, hq])
    have hxm := List.getElem_mem hi
    refine ⟨fun w h => sHead_any _ _ _ _ _ (hw.xs _ hxm) ((ps_small hw).2 _ hxm) w (hT.later h.2) (ListIn.lasts lasts_NoMem (hm.2.1.2.2.2.2 _ hxm) h.2 h.2.size), fun w h => sType_any _ w (hT.later h.2), fun v w h hs => ?_⟩
    exact lineP m W0 b _ w v _ h hs (by simp) (tX (modD m) (i + 1)) (tX_line m (by rw [HQ.out, hq]) i hi) (Nat.le_trans (tX_le _ _) hl)
  have cF : q = true → ∀ i (hi : i < m.fs.length) b w, SP m W0 b (tF (modD m) i) w → Calls Tryz.prog 35 #[.pointer (some ⟨b, 0, none⟩), .agg (fnC m.fs[i]).toArray] w fun e w' => e = .returned (.tuple #[]) ∧ Hid (SP m W0 b (tF (modD m) (i + 1)) w') := fun hq i hi b w h =>
    function_any m W0 b hO hT hm hw hn (by rw [HQ.out, hq]) i hi w h
  have hA : tV (modD m) 0 = [] ∧ tX (modD m) 0 = tV (modD m) m.vs.length ∧ tF (modD m) 0 = tX (modD m) m.xs.length ∧ tF (modD m) m.fs.length = modT (modD m) := by
    have lx : (modD m).xs.length = m.xs.length := by show (m.xs.map extD).length = _; simp
    have lf : (modD m).fs.length = m.fs.length := by show (m.fs.map fnD).length = _; simp
    refine ⟨rfl, tX_zero _, ?_, ?_⟩
    · rw [tF_zero, lx]
    · rw [← lf, tF_all]
  obtain ⟨A1, e1⟩ : ∃ A, tV (modD m) = A := ⟨_, rfl⟩
  obtain ⟨A2, e2⟩ : ∃ A, tX (modD m) = A := ⟨_, rfl⟩
  obtain ⟨A3, e3⟩ : ∃ A, tF (modD m) = A := ⟨_, rfl⟩
  obtain ⟨T, eT⟩ : ∃ T, modT (modD m) = T := ⟨_, rfl⟩
  simp only [e1, e2, e3, eT] at cV cX cF hA HR
  have S0 : Hid (HBx W0.heap.size (modC m) 26 (W0.alloc (.cells (modC m).toArray 26)) ∧ Below W0.heap.size W0 (W0.alloc (.cells (modC m).toArray 26))) := Lib.hid ⟨heap_new _ _, hal0⟩
  have mk : ∀ w, Hid (HBx W0.heap.size (modC m) 26 w ∧ Below W0.heap.size W0 w) → Hid (SP m W0 w.heap.size [] (w.alloc (.cells (modC m ++ [Value.pointer none, Value.slice none 0 0]).toArray 71)) ∧ HBx W0.heap.size (modC m) 26 (w.alloc (.cells (modC m ++ [Value.pointer none, Value.slice none 0 0]).toArray 71)) ∧ W0.heap.size ≠ w.heap.size) := fun w h => by
    have hal : Below w.heap.size w (w.alloc (.cells (modC m ++ [Value.pointer none, Value.slice none 0 0]).toArray 71)) := (Below.refl _ _).alloc (Nat.le_refl _) _
    have hlt := heap_lt h.out.1
    exact Lib.hid ⟨⟨⟨h.out.2.size, .pointer none, .slice none 0 0, heap_new _ _, .inl rfl, ⟨rfl, .inl ⟨rfl, rfl⟩⟩, by simp [Value.ownBlock]⟩, h.out.2.trans (hal.mono h.out.2.size)⟩, h.out.1.later hal, by omega⟩
  have cS : ∀ b w l, SP m W0 b l w → Calls Tryz.prog 36 #[.pointer (some ⟨b, 3, none⟩)] w fun e w' => e = .returned (.string (mkS l)) ∧ Below W0.heap.size w w' := fun b w l h => String_any (pre := modC m) W0.heap.size b l w h.1 h.2.size
  have HM := Lib.hid hm
  clear hal0 e1 e2 e3 eT hO hT hm hw hn HQ
  obtain ⟨vp, vn, vc, vs, xp, xn, xc, xs, fp, fn, fc, fs⟩ := m
  have HM : Hid (ListIn varC NoMem W0.heap.size W0 vp vn vc vs ∧ ListIn extC ExtIn W0.heap.size W0 xp xn xc xs ∧ ListIn fnC FnIn W0.heap.size W0 fp fn fc fs) := HM
  have hvn : vn ≤ 9223372036854775807 := by have h1 := HM.out.1.2.1; have h2 := HM.out.1.2.2.1; unfold maxLen at h2; omega
  have hxn : xn ≤ 9223372036854775807 := by have h1 := HM.out.2.1.2.1; have h2 := HM.out.2.1.2.2.1; unfold maxLen at h2; omega
  have hfn : fn ≤ 9223372036854775807 := by have h1 := HM.out.2.2.2.1; have h2 := HM.out.2.2.2.2.1; unfold maxLen at h2; omega
  have HL := Lib.hid (And.intro HM.out.1.1 (And.intro HM.out.2.1.1 HM.out.2.2.1))
  obtain ⟨M, eM⟩ : ∃ M : LMod, (⟨vp, vn, vc, vs, xp, xn, xc, xs, fp, fn, fc, fs⟩ : LMod) = M := ⟨_, rfl⟩
  have cs : Calls Tryz.prog 8 #[.agg #[.slice vp vn vc, .slice xp xn xc, .slice fp fn fc]] (W0.alloc (.cells #[.slice vp vn vc, .slice xp xn xc, .slice fp fn fc] 26)) (Ans (.bool q) (W0.alloc (.cells #[.slice vp vn vc, .slice xp xn xc, .slice fp fn fc] 26))) := cs
  have S0 : Hid (HBx W0.heap.size [.slice vp vn vc, .slice xp xn xc, .slice fp fn fc] 26 (W0.alloc (.cells #[.slice vp vn vc, .slice xp xn xc, .slice fp fn fc] 26)) ∧ Below W0.heap.size W0 (W0.alloc (.cells #[.slice vp vn vc, .slice xp xn xc, .slice fp fn fc] 26))) := S0
  have mk : ∀ w, Hid (HBx W0.heap.size [.slice vp vn vc, .slice xp xn xc, .slice fp fn fc] 26 w ∧ Below W0.heap.size W0 w) → Hid (SP M W0 w.heap.size [] (w.alloc (.cells #[.slice vp vn vc, .slice xp xn xc, .slice fp fn fc, .pointer none, .slice none 0 0] 71)) ∧ HBx W0.heap.size [.slice vp vn vc, .slice xp xn xc, .slice fp fn fc] 26 (w.alloc (.cells #[.slice vp vn vc, .slice xp xn xc, .slice fp fn fc, .pointer none, .slice none 0 0] 71)) ∧ W0.heap.size ≠ w.heap.size) := by subst eM; exact mk
  have cV : q = true → ∀ i (hi : i < vs.length), ∃ k : Nat, vs[i].size = (k : Int) ∧ (k ≤ 9223372036854775807) ∧ ∀ b (hbB : W0.heap.size ≠ b), (∀ w, SP M W0 b (A1 i) w → Calls Tryz.prog 33 #[.int .i64 (k : Int)] w (StrV (mkS (Lib.decDigits k)) w)) ∧ ∀ v w, SP M W0 b (A1 i) w → SL w v [(⟨#[103, 108, 111, 98, 97, 108]⟩ : ByteArray), vs[i].nm, mkS (Lib.decDigits k)] → Calls Tryz.prog 32 #[.pointer (some ⟨b, 0, none⟩), v] w fun e w' => e = .returned (.tuple #[]) ∧ Hid (SP M W0 b (A1 (i + 1)) w' ∧ Kp b w w') := by subst eM; exact cV
  have cX : q = true → ∀ i (hi : i < xs.length) b, (∀ w, SP M W0 b (A2 i) w → Calls Tryz.prog 34 #[.string xs[i].nm, .slice xs[i].pp xs[i].pn xs[i].pc] w (StrV (mkS (hdT xs[i].nm xs[i].ps)) w)) ∧ (∀ w, SP M W0 b (A2 i) w → Calls Tryz.prog 12 #[.int .i64 xs[i].rt] w (StrV (mkS (typeT xs[i].rt)) w)) ∧ ∀ v w, SP M W0 b (A2 i) w → SL w v [(⟨#[101, 120, 116, 101, 114, 110]⟩ : ByteArray), mkS (hdT xs[i].nm xs[i].ps), mkS (typeT xs[i].rt)] → Calls Tryz.prog 32 #[.pointer (some ⟨b, 0, none⟩), v] w fun e w' => e = .returned (.tuple #[]) ∧ Hid (SP M W0 b (A2 (i + 1)) w' ∧ Kp b w w') := by subst eM; exact cX
  have cF : q = true → ∀ i (hi : i < fs.length) b w, SP M W0 b (A3 i) w → Calls Tryz.prog 35 #[.pointer (some ⟨b, 0, none⟩), .agg (fnC fs[i]).toArray] w fun e w' => e = .returned (.tuple #[]) ∧ Hid (SP M W0 b (A3 (i + 1)) w') := by subst eM; exact cF
  have cS : ∀ b w l, SP M W0 b l w → Calls Tryz.prog 36 #[.pointer (some ⟨b, 3, none⟩)] w fun e w' => e = .returned (.string (mkS l)) ∧ Below W0.heap.size w w' := by subst eM; exact cS
  have hA : A1 0 = [] ∧ A2 0 = A1 vs.length ∧ A3 0 = A2 xs.length ∧ A3 fs.length = T := hA
  have HK := Lib.hid (And.intro cV (And.intro cX (And.intro cF (And.intro cS (And.intro hA mk)))))
  show Calls Tryz.prog 10 #[.agg #[.slice vp vn vc, .slice xp xn xc, .slice fp fn fc]] W0 _
  clear cV cX cF cS hA mk eM
  go_enter Tryz.func10, Tryz.ntmps10
  go_wp2_with fail
  refine cs.mono ?_
  rintro e w1 ⟨rfl, hb1⟩
  have S1 := Lib.hid (And.intro (S0.out.1.later hb1) (S0.out.2.trans (hb1.mono S0.out.2.size)))
  clear cs hb1 S0
  have y0 := S1.out.1.get 0 _ rfl
  have y1 := S1.out.1.get 1 _ rfl
  have y2 := S1.out.1.get 2 _ rfl
  cases q
  case false =>
    go_wp2_with fail
    go_ret
    exact ⟨by rw [HR.out.1 (by first | rfl | trivial)]; rfl, S1.out.2⟩
  case true =>
  have S2 := HK.out.2.2.2.2.2 w1 S1
  have y0 := S2.out.2.1.get 0 _ rfl
  have hbd := fun w => build_sp w vp xp fp vn vc xn xc fn fc
  go_upto_region 4 with fail
  obtain ⟨w2, ew2⟩ : ∃ w2, (w1.alloc (.cells #[.slice vp vn vc, .slice xp xn xc, .slice fp fn fc, .pointer none, .slice none 0 0] 71)) = w2 := ⟨_, rfl⟩
  rw [ew2] at S2 y0 ⊢
  obtain ⟨b, eb⟩ : ∃ b, w1.heap.size = b := ⟨_, rfl⟩
  rw [eb] at S2 ⊢
  clear ew2 eb hbd y1 y2 S1
  have hbB : W0.heap.size ≠ b := S2.out.2.2
  have HB := Lib.hid hbB
  clear hbB
  go_wp2_with fail
  go_loopw [19] (fun ti wr => ∃ i : Nat, i ≤ vn ∧ ti = .int .i64 i ∧ Hid (SP M W0 b (A1 i) wr ∧ HBx W0.heap.size [.slice vp vn vc, .slice xp xn xc, .slice fp fn fc] 26 wr)) (fun ti _ => vn - (intOf ti).toNat)
  case atStart => exact ⟨0, Nat.zero_le _, rfl, Lib.hid ⟨by rw [HK.out.2.2.2.2.1.1]; exact S2.out.1, S2.out.2.1⟩⟩
  case round =>
    obtain ⟨i, hi, rfl, hS⟩ := hrel
    generalize wr = wo at *
    by_cases hlt : i < vn
    · have hl2 : i < vs.length := by have := HL.out.1; omega
      obtain ⟨a, rfl, hab, c0, c1⟩ := row_V HM.out.1 i hl2
      have c0 := (hS.out.1.2.cell (p := a.add (i * 2)) (by rw [add_block]; exact hab)).trans c0
      have c1 := (hS.out.1.2.cell (p := ⟨(a.add (i * 2)).block, (a.add (i * 2)).off + 1, none⟩) (by dsimp only; rw [add_block]; exact hab)).trans c1
      obtain ⟨k, hk, hk9, hcc⟩ := HK.out.1 (by first | rfl | trivial) i hl2
      obtain ⟨hci, hcl⟩ := hcc b HB.out
      obtain ⟨v, ev⟩ : ∃ v, vs[i] = v := ⟨_, rfl⟩
      simp only [ev] at c0 c1 hk hcl
      clear ev hcc
      obtain ⟨nm, sz⟩ := v
      simp only at c0 c1 hk hcl
      subst hk
      obtain ⟨d, ed⟩ : ∃ d, mkS (Lib.decDigits k) = d := ⟨_, rfl⟩
      simp only [ed] at hci hcl
      clear ed
      have hal : Below wo.heap.size wo (wo.alloc (.cells #[.string nm, .int .i64 (k : Int)] 35)) := (Below.refl _ _).alloc (Nat.le_refl _) _
      have S3 : Hid (SP M W0 b (A1 i) (wo.alloc (.cells #[.string nm, .int .i64 (k : Int)] 35)) ∧ HBx W0.heap.size [.slice (some a) vn vc, .slice xp xn xc, .slice fp fn fc] 26 (wo.alloc (.cells #[.string nm, .int .i64 (k : Int)] 35)) ∧ HBx wo.heap.size [.string nm, .int .i64 (k : Int)] 35 (wo.alloc (.cells #[.string nm, .int .i64 (k : Int)] 35))) := Lib.hid ⟨hS.out.1.later hal, hS.out.2.later hal, heap_new _ _⟩
      clear hS hal
      go_upto_region 7 with fail
      obtain ⟨w3, ew3⟩ : ∃ w3, (wo.alloc (.cells #[.string nm, .int .i64 (k : Int)] 35)) = w3 := ⟨_, rfl⟩
      rw [ew3] at S3 ⊢
      clear ew3 c0 c1
      obtain ⟨F, eF⟩ : ∃ F, wo.heap.size = F := ⟨_, rfl⟩
      simp only [eF] at S3 ⊢
      clear eF
      have cI : ∀ w', Hid (SP M W0 b (A1 i) w' ∧ HBx W0.heap.size [.slice (some a) vn vc, .slice xp xn xc, .slice fp fn fc] 26 w' ∧ HBx F [.string nm, .int .i64 (k : Int)] 35 w') → Calls Tryz.prog 33 #[.int .i64 (k : Int)] w' fun e w'' => e = .returned (.string d) ∧ Hid (SP M W0 b (A1 i) w'' ∧ HBx W0.heap.size [.slice (some a) vn vc, .slice xp xn xc, .slice fp fn fc] 26 w'' ∧ HBx F [.string nm, .int .i64 (k : Int)] 35 w'') := fun w' h => (hci w' h.out.1).mono fun e w'' ⟨he, hb⟩ => ⟨he, Lib.hid ⟨h.out.1.later hb, h.out.2.1.later hb, h.out.2.2.later hb⟩⟩
      have cLn : ∀ v w', Hid (SP M W0 b (A1 i) w' ∧ HBx W0.heap.size [.slice (some a) vn vc, .slice xp xn xc, .slice fp fn fc] 26 w' ∧ SL w' v [(⟨#[103, 108, 111, 98, 97, 108]⟩ : ByteArray), nm, d]) → Calls Tryz.prog 32 #[.pointer (some ⟨b, 0, none⟩), v] w' fun e w'' => e = .returned (.tuple #[]) ∧ Hid (SP M W0 b (A1 (i + 1)) w'' ∧ HBx W0.heap.size [.slice (some a) vn vc, .slice xp xn xc, .slice fp fn fc] 26 w'') := fun v w' h => (hcl v w' h.out.1 h.out.2.2).mono fun e w'' ⟨he, hb⟩ => ⟨he, Lib.hid ⟨hb.out.1, h.out.2.1.kp HB.out (by decide) hb.out.2⟩⟩
      have S3d : Hid (SP M W0 b (A1 i) w3.drew ∧ HBx W0.heap.size [.slice (some a) vn vc, .slice xp xn xc, .slice fp fn fc] 26 w3.drew ∧ HBx F [.string nm, .int .i64 (k : Int)] 35 w3.drew) := Lib.hid ⟨S3.out.1.later (below_drew (Below.refl _ _)), S3.out.2.1.later (below_drew (Below.refl _ _)), S3.out.2.2.later (below_drew (Below.refl _ _))⟩
      have z0 := S3.out.2.2.get 0 _ rfl
      have z1 := S3.out.2.2.get 1 _ rfl
      clear hci hcl
      go_region_law (first
        | (go_simp
           (with_reducible refine (cI _ ?pre).mono ?_)
           case pre => (first | exact S3 | exact S3d)
           rintro ee w5 ⟨rfl, h5⟩
           have y0 := h5.out.2.2.get 0 _ rfl
           have y1 := h5.out.2.2.get 1 _ rfl)
        | (go_simp
           (with_reducible refine (cLn _ _ ?pre).mono ?_)
           case pre => (exact Lib.hid ⟨h5.out.1.alloc _, h5.out.2.1.later ((Below.refl _ _).alloc (Nat.le_refl _) _), (OS.lit w5 (Nat.le_refl _) [(⟨#[103, 108, 111, 98, 97, 108]⟩ : ByteArray), nm, d] _ rfl 3 rfl (by decide)).sl⟩)
           rintro ee w7 ⟨rfl, h7⟩))
      all_goals
        clear cI cLn S3 S3d z0 z1 y0 y1 h5
        go_wp2_with fail
        exact ⟨⟨i + 1, by omega, by go_num, h7⟩, by simp [intOf]; omega⟩
    · obtain rfl : vn = i := by omega
      have S4 : Hid (SP M W0 b (A2 0) wo ∧ HBx W0.heap.size [.slice vp vn vc, .slice xp xn xc, .slice fp fn fc] 26 wo) := Lib.hid ⟨by have := hS.out.1; rw [HL.out.1] at this; rw [HK.out.2.2.2.2.1.2.1]; exact this, hS.out.2⟩
      have y1 := S4.out.2.get 1 _ rfl
      clear hS
      go_wp2_with fail
      clear y1
      go_loopw [35] (fun ti wr => ∃ i : Nat, i ≤ xn ∧ ti = .int .i64 i ∧ Hid (SP M W0 b (A2 i) wr ∧ HBx W0.heap.size [.slice vp vn vc, .slice xp xn xc, .slice fp fn fc] 26 wr)) (fun ti _ => xn - (intOf ti).toNat)
      case atStart => exact ⟨0, Nat.zero_le _, rfl, S4⟩
      case round =>
        obtain ⟨i, hi, rfl, hS⟩ := hrel
        generalize wr = wp at *
        by_cases hlt : i < xn
        · have hl2 : i < xs.length := by have := HL.out.2.1; omega
          obtain ⟨a, rfl, hab, c0, c1, c2⟩ := row_X HM.out.2.1 i hl2
          have c0 := (hS.out.1.2.cell (p := a.add (i * 3)) (by rw [add_block]; exact hab)).trans c0
          have c1 := (hS.out.1.2.cell (p := ⟨(a.add (i * 3)).block, (a.add (i * 3)).off + 1, none⟩) (by dsimp only; rw [add_block]; exact hab)).trans c1
          have c2 := (hS.out.1.2.cell (p := ⟨(a.add (i * 3)).block, (a.add (i * 3)).off + 2, none⟩) (by dsimp only; rw [add_block]; exact hab)).trans c2
          obtain ⟨hch, hct, hcl⟩ := HK.out.2.1 (by first | rfl | trivial) i hl2 b
          obtain ⟨v, ev⟩ : ∃ v, xs[i] = v := ⟨_, rfl⟩
          simp only [ev] at c0 c1 c2 hch hct hcl
          clear ev
          obtain ⟨nm, pp, pn, pc, ps, rt⟩ := v
          simp only at c0 c1 c2 hch hct hcl
          obtain ⟨d1, ed1⟩ : ∃ d, mkS (hdT nm ps) = d := ⟨_, rfl⟩
          obtain ⟨d2, ed2⟩ : ∃ d, mkS (typeT rt) = d := ⟨_, rfl⟩
          simp only [ed1, ed2] at hch hct hcl
          clear ed1 ed2
          have hal : Below wp.heap.size wp (wp.alloc (.cells #[.string nm, .slice pp pn pc, .int .i64 rt] 47)) := (Below.refl _ _).alloc (Nat.le_refl _) _
          have S3 : Hid ((SP M W0 b (A2 i) (wp.alloc (.cells #[.string nm, .slice pp pn pc, .int .i64 rt] 47)) ∧ HBx W0.heap.size [.slice vp vn vc, .slice (some a) xn xc, .slice fp fn fc] 26 (wp.alloc (.cells #[.string nm, .slice pp pn pc, .int .i64 rt] 47))) ∧ HBx wp.heap.size [.string nm, .slice pp pn pc, .int .i64 rt] 47 (wp.alloc (.cells #[.string nm, .slice pp pn pc, .int .i64 rt] 47))) := Lib.hid ⟨⟨hS.out.1.later hal, hS.out.2.later hal⟩, heap_new _ _⟩
          clear hS hal
          go_upto_region 12 with fail
          obtain ⟨w3, ew3⟩ : ∃ w3, (wp.alloc (.cells #[.string nm, .slice pp pn pc, .int .i64 rt] 47)) = w3 := ⟨_, rfl⟩
          rw [ew3] at S3 ⊢
          clear ew3 c0 c1 c2
          obtain ⟨F, eF⟩ : ∃ F, wp.heap.size = F := ⟨_, rfl⟩
          simp only [eF] at S3 ⊢
          clear eF
          have cH : ∀ w', Hid ((SP M W0 b (A2 i) w' ∧ HBx W0.heap.size [.slice vp vn vc, .slice (some a) xn xc, .slice fp fn fc] 26 w') ∧ HBx F [.string nm, .slice pp pn pc, .int .i64 rt] 47 w') → Calls Tryz.prog 34 #[.string nm, .slice pp pn pc] w' fun e w'' => e = .returned (.string d1) ∧ Hid ((SP M W0 b (A2 i) w'' ∧ HBx W0.heap.size [.slice vp vn vc, .slice (some a) xn xc, .slice fp fn fc] 26 w'') ∧ HBx F [.string nm, .slice pp pn pc, .int .i64 rt] 47 w'') := fun w' h => (hch w' h.out.1.1).mono fun e w'' ⟨he, hb⟩ => ⟨he, Lib.hid ⟨⟨h.out.1.1.later hb, h.out.1.2.later hb⟩, h.out.2.later hb⟩⟩
          have cT : ∀ w', Hid ((SP M W0 b (A2 i) w' ∧ HBx W0.heap.size [.slice vp vn vc, .slice (some a) xn xc, .slice fp fn fc] 26 w') ∧ HBx F [.string nm, .slice pp pn pc, .int .i64 rt] 47 w') → Calls Tryz.prog 12 #[.int .i64 rt] w' fun e w'' => e = .returned (.string d2) ∧ Hid ((SP M W0 b (A2 i) w'' ∧ HBx W0.heap.size [.slice vp vn vc, .slice (some a) xn xc, .slice fp fn fc] 26 w'') ∧ HBx F [.string nm, .slice pp pn pc, .int .i64 rt] 47 w'') := fun w' h => (hct w' h.out.1.1).mono fun e w'' ⟨he, hb⟩ => ⟨he, Lib.hid ⟨⟨h.out.1.1.later hb, h.out.1.2.later hb⟩, h.out.2.later hb⟩⟩
          have cLn : ∀ v w', Hid ((SP M W0 b (A2 i) w' ∧ HBx W0.heap.size [.slice vp vn vc, .slice (some a) xn xc, .slice fp fn fc] 26 w') ∧ SL w' v [(⟨#[101, 120, 116, 101, 114, 110]⟩ : ByteArray), d1, d2]) → Calls Tryz.prog 32 #[.pointer (some ⟨b, 0, none⟩), v] w' fun e w'' => e = .returned (.tuple #[]) ∧ Hid (SP M W0 b (A2 (i + 1)) w'' ∧ HBx W0.heap.size [.slice vp vn vc, .slice (some a) xn xc, .slice fp fn fc] 26 w'') := fun v w' h => (hcl v w' h.out.1.1 h.out.2).mono fun e w'' ⟨he, hb⟩ => ⟨he, Lib.hid ⟨hb.out.1, h.out.1.2.kp HB.out (by decide) hb.out.2⟩⟩
          have S3d : Hid ((SP M W0 b (A2 i) w3.drew ∧ HBx W0.heap.size [.slice vp vn vc, .slice (some a) xn xc, .slice fp fn fc] 26 w3.drew) ∧ HBx F [.string nm, .slice pp pn pc, .int .i64 rt] 47 w3.drew) := Lib.hid ⟨⟨S3.out.1.1.later (below_drew (Below.refl _ _)), S3.out.1.2.later (below_drew (Below.refl _ _))⟩, S3.out.2.later (below_drew (Below.refl _ _))⟩
          have z0 := S3.out.2.get 0 _ rfl
          have z1 := S3.out.2.get 1 _ rfl
          have z2 := S3.out.2.get 2 _ rfl
          clear hch hct hcl
          go_region_law (first
            | (go_simp
               (with_reducible refine (cH _ ?pre).mono ?_)
               case pre => (first | exact S3 | exact S3d)
               rintro ee w5 ⟨rfl, h5⟩
               have y2 := h5.out.2.get 2 _ rfl)
            | (go_simp
               (with_reducible refine (cT _ ?pre).mono ?_)
               case pre => (first | exact h5 | exact S3 | exact S3d)
               rintro ee w6 ⟨rfl, h6⟩)
            | (go_simp
               (with_reducible refine (cLn _ _ ?pre).mono ?_)
               case pre => (exact Lib.hid ⟨⟨h6.out.1.1.alloc _, h6.out.1.2.later ((Below.refl _ _).alloc (Nat.le_refl _) _)⟩, (OS.lit w6 (Nat.le_refl _) [(⟨#[101, 120, 116, 101, 114, 110]⟩ : ByteArray), d1, d2] _ rfl 3 rfl (by decide)).sl⟩)
               rintro ee w7 ⟨rfl, h7⟩))
          all_goals
            clear cH cT cLn S3 S3d z0 z1 z2 y2 h5 h6
            go_wp2_with fail
            exact ⟨⟨i + 1, by omega, by go_num, h7⟩, by simp [intOf]; omega⟩
        · obtain rfl : xn = i := by omega
          have S5 : Hid (SP M W0 b (A3 0) wp ∧ HBx W0.heap.size [.slice vp vn vc, .slice xp xn xc, .slice fp fn fc] 26 wp) := Lib.hid ⟨by have := hS.out.1; rw [HL.out.2.1] at this; rw [HK.out.2.2.2.2.1.2.2.1]; exact this, hS.out.2⟩
          have y2 := S5.out.2.get 2 _ rfl
          clear hS
          go_wp2_with fail
          clear y2
          go_loopw [54] (fun ti wr => ∃ i : Nat, i ≤ fn ∧ ti = .int .i64 i ∧ Hid (SP M W0 b (A3 i) wr)) (fun ti _ => fn - (intOf ti).toNat)
          case atStart => exact ⟨0, Nat.zero_le _, rfl, Lib.hid S5.out.1⟩
          case round =>
            obtain ⟨i, hi, rfl, hS⟩ := hrel
            generalize wr = wq at *
            by_cases hlt : i < fn
            · have hl2 : i < fs.length := by have := HL.out.2.2; omega
              obtain ⟨a, rfl, hab, c0, c1, c2, c3⟩ := row_F HM.out.2.2 i hl2
              have c0 := (hS.out.2.cell (p := a.add (i * 4)) (by rw [add_block]; exact hab)).trans c0
              have c1 := (hS.out.2.cell (p := ⟨(a.add (i * 4)).block, (a.add (i * 4)).off + 1, none⟩) (by dsimp only; rw [add_block]; exact hab)).trans c1
              have c2 := (hS.out.2.cell (p := ⟨(a.add (i * 4)).block, (a.add (i * 4)).off + 2, none⟩) (by dsimp only; rw [add_block]; exact hab)).trans c2
              have c3 := (hS.out.2.cell (p := ⟨(a.add (i * 4)).block, (a.add (i * 4)).off + 3, none⟩) (by dsimp only; rw [add_block]; exact hab)).trans c3
              have hcf := HK.out.2.2.1 (by first | rfl | trivial) i hl2 b
              obtain ⟨f, ef⟩ : ∃ v, fs[i] = v := ⟨_, rfl⟩
              simp only [ef] at c0 c1 c2 c3 hcf
              clear ef
              obtain ⟨nm, pp, pn, pc, ps, rt, bp, bn, bc, bs⟩ := f
              simp only at c0 c1 c2 c3
              have hcf : ∀ w, SP M W0 b (A3 i) w → Calls Tryz.prog 35 #[.pointer (some ⟨b, 0, none⟩), .agg #[.string nm, .slice pp pn pc, .int .i64 rt, .slice bp bn bc]] w fun e w' => e = .returned (.tuple #[]) ∧ Hid (SP M W0 b (A3 (i + 1)) w') := hcf
              have hcf2 := hcf _ (hS.out.alloc (.cells #[.string nm, .slice pp pn pc, .int .i64 rt, .slice bp bn bc] 45))
              clear hcf hS
              go_wp2_with fail
              refine hcf2.mono ?_
              rintro e w7 ⟨rfl, h7⟩
              clear hcf2 c0 c1 c2 c3
              go_wp2_with fail
              exact ⟨⟨i + 1, by omega, by go_num, h7⟩, by simp [intOf]; omega⟩
            · obtain rfl : fn = i := by omega
              have S6 : Hid (SP M W0 b T wq) := Lib.hid (by have := hS.out; rw [HL.out.2.2, HK.out.2.2.2.2.1.2.2.2] at this; exact this)
              have hcs := HK.out.2.2.2.1 b wq T S6.out
              have HRT : Hid (R = mkS T) := Lib.hid (HR.out.2 (by first | rfl | trivial))
              obtain ⟨s, es⟩ : ∃ s, mkS T = s := ⟨_, rfl⟩
              rw [es] at hcs HRT
              clear hS es
              go_wp2_with fail
              refine hcs.mono ?_
              rintro e w8 ⟨rfl, hb8⟩
              have H8 := Lib.hid (S6.out.2.trans hb8)
              clear hcs hb8
              go_wp2_with fail
              go_ret
              exact ⟨by rw [HRT.out]; rfl, H8.out⟩
end Go.Proofs.YtmampoakdjjbiaaGreatDoor
