/- A function's lines put behind the others. -/
import Derived.Test.YtmampoakdjjbiaaGreatDoorSpKi
import Derived.Test.YtmampoakdjjbiaaGreatDoorSpKj
import Derived.Test.YtmampoakdjjbiaaGreatDoorSpRT
namespace Go.Proofs.YtmampoakdjjbiaaGreatDoor
open Go.RowKit Go.Maps
set_option linter.unusedVariables false
set_option linter.unusedSimpArgs false

/-- The speller at work: so much is written, and what lay ahead of the call lies there still. -/
def SP (m : LMod) (W0 : World) (b : Nat) (l : Tx) (w : World) : Prop := Bld 71 (modC m) W0.heap.size b l w ∧ Below W0.heap.size W0 w
theorem SP.later {m : LMod} {W0 : World} {b : Nat} {l : Tx} {w w' : World} (h : SP m W0 b l w) (hb : Below w.heap.size w w') : SP m W0 b l w' := ⟨h.1.later hb, h.2.trans (hb.mono h.2.size)⟩
theorem SP.alloc {m : LMod} {W0 : World} {b : Nat} {l : Tx} {w : World} (h : SP m W0 b l w) (o : Obj) : SP m W0 b l (w.alloc o) := h.later ((Below.refl _ _).alloc (Nat.le_refl _) o)
/-- A block of some type, not bytes. -/
def HBx (k : Nat) (cs : List Value) (T : TypeId) (w : World) : Prop := w.heap[k]? = some (.cells cs.toArray T (0, 0))
theorem HBx.later {k : Nat} {cs : List Value} {T : TypeId} {w w' : World} (h : HBx k cs T w) (hb : Below w.heap.size w w') : HBx k cs T w' := (hb.block k (heap_lt h)).trans h
theorem HBx.kp {k b : Nat} {cs : List Value} {T : TypeId} {w w' : World} (h : HBx k cs T w) (hk : k ≠ b) (hT : T ≠ 5) (hb : Kp b w w') : HBx k cs T w' := hb k hk _ _ _ hT h
theorem HBx.get {k : Nat} {cs : List Value} {T : TypeId} {w : World} (h : HBx k cs T w) (i : Nat) (u : Value) (hu : cs[i]? = some u) : w.cell? ⟨k, i, none⟩ = some u := by
  rw [Lib.cell_of_heap h]
  simpa using hu
/-- The steps of a function's text. -/
structure FSteps (m : LMod) (i : Nat) (f : LFn) (U4 : Nat → Tx) (U5 : Nat → Nat → Tx) (L L' : Tx) : Prop where
  b0 : U4 0 = L ++ layT [[102, 117, 110, 99], hdT f.nm f.ps, typeT f.rt] ++ [10]
  c0 : ∀ b (hb : b < f.bs.length), U5 b 0 = U4 b ++ layT [blockT (b : Int) ++ [58]] ++ [10]
  c : ∀ b (hb : b < f.bs.length) c, f.bs[b] = c → ∀ k (hk : k < c.code.length), U5 b (k + 1) = U5 b k ++ [32, 32] ++ layT (instrP (modD m) (insD c.code[k])) ++ [10]
  b : ∀ b (hb : b < f.bs.length) c, f.bs[b] = c → U4 (b + 1) = U5 b c.code.length
  fe : L' = U4 f.bs.length ++ layT [[101, 110, 100]] ++ [10]
  zL : L'.length ≤ 4398046511104
  z4 : ∀ b, (U4 b).length ≤ 4398046511104
  z5 : ∀ b (hb : b < f.bs.length) k, (U5 b k).length ≤ 4398046511104
theorem layT_one (p : Tx) : layT [p] = p := by
  show layS [] p = p
  unfold layS
  rw [if_neg fun k => k.1 rfl]
  rfl
theorem hdT_ne (nm : ByteArray) (ps : List Int) : hdT nm ps ≠ [] := by unfold hdT; simp
theorem lay_head (w0 : Tx) (hw0 : w0 ≠ []) (nm : ByteArray) (ps : List Int) (rt : Int) (h : tyB rt = true) : layT [w0, hdT nm ps, typeT rt] ++ [10] = w0 ++ [32] ++ headT nm ps rt := by
  rw [layT_cons hw0]
  simp only [List.map_cons, List.map_nil, List.flatten_cons, List.flatten_nil, beh_ne (hdT_ne _ _), beh_ne (typeT_ne h)]
  unfold headT hdT
  simp
theorem say_rt {m : LMod} (hq : sayB wdB (modD m) = true) : (∀ f ∈ m.fs, tyB f.rt = true) ∧ ∀ x ∈ m.xs, tyB x.rt = true := by
  unfold sayB at hq
  simp only [Bool.and_eq_true] at hq
  refine ⟨fun f hf => ?_, fun x hx => ?_⟩
  · have := List.all_eq_true.1 hq.2 (fnD f) (List.mem_map_of_mem hf)
    unfold fnB at this
    rw [Bool.and_eq_true] at this
    exact head_ty this.1
  · have := List.all_eq_true.1 hq.1.2 (extD x) (List.mem_map_of_mem hx)
    exact head_ty this
theorem fsteps (m : LMod) (hw : MWf m) (hn : NumOk m) (hq : sayB wdB (modD m) = true) (i : Nat) (h : i < m.fs.length) :
    FSteps m i m.fs[i] (fun b => tB (modD m) i (fnD m.fs[i]) b) (fun b k => tC (modD m) i (fnD m.fs[i]) b (blkAt m i b) k) (tF (modD m) i) (tF (modD m) (i + 1)) := by
  have hl := modT_len hw.len hn.vs hn.ins hq
  have lf : (modD m).fs.length = m.fs.length := by show (m.fs.map fnD).length = _; simp
  have gf : (modD m).fs[i]'(by rw [lf]; exact h) = fnD m.fs[i] := by simp [modD]
  have gb : ∀ b (hb : b < m.fs[i].bs.length), (fnD m.fs[i]).bs[b]'(by simpa [fnD] using hb) = blkD m.fs[i].bs[b] := fun b hb => by simp [fnD]
  have lb : (fnD m.fs[i]).bs.length = m.fs[i].bs.length := by simp [fnD]
  have lc : ∀ c : LB, (blkD c).length = c.code.length := fun c => by simp [blkD]
  have hrt := (say_rt hq).1 _ (List.getElem_mem h)
  refine ⟨?_, ?_, ?_, ?_, ?_, ?_, ?_, ?_⟩
  · show tB (modD m) i (fnD m.fs[i]) 0 = _
    rw [tB_zero, List.append_assoc (tF (modD m) i) (layT _), lay_head _ (by simp) _ _ _ hrt]
    show tF (modD m) i ++ [102, 117, 110, 99, 32] ++ headT m.fs[i].nm m.fs[i].ps m.fs[i].rt = _
    simp
  · intro b hb
    show tC (modD m) i (fnD m.fs[i]) b (blkAt m i b) 0 = _
    rw [tC_zero, layT_one]
    simp
  · intro b hb c e k hk
    subst e
    show tC (modD m) i (fnD m.fs[i]) b (blkAt m i b) (k + 1) = tC (modD m) i (fnD m.fs[i]) b (blkAt m i b) k ++ _ ++ _ ++ _
    have hB := say_ins hq _ (List.getElem_mem h) _ (List.getElem_mem hb) _ (List.getElem_mem hk)
    rw [blkAt_eq h hb, tC_step _ _ _ _ _ k (by rw [lc]; exact hk), ins_lay hB]
    simp [lineT, blkD]
  · intro b hb c e
    subst e
    show tB (modD m) i (fnD m.fs[i]) (b + 1) = tC (modD m) i (fnD m.fs[i]) b (blkAt m i b) _
    rw [blkAt_eq h hb, tB_step _ _ _ b (by rw [lb]; exact hb), gb b hb, lc]
  · show _ = tB (modD m) i (fnD m.fs[i]) _ ++ _ ++ _
    rw [tF_fn _ i (by rw [lf]; exact h), gf, lb, layT_one]
    simp
  · exact Nat.le_trans (tF_le _ _) hl
  · intro b
    have := tB_le (modD m) i (by rw [lf]; exact h) b
    rw [gf] at this
    show (tB (modD m) i (fnD m.fs[i]) b).length ≤ _
    omega
  · intro b hb k
    have := tC_le (modD m) i (by rw [lf]; exact h) b (by rw [gf, lb]; exact hb) k
    simp only [gf] at this
    rw [gb b hb] at this
    show (tC (modD m) i (fnD m.fs[i]) b (blkAt m i b) k).length ≤ _
    rw [blkAt_eq h hb]
    exact Nat.le_trans this hl
/-- A line, as the speller puts it. -/
theorem lineP (m : LMod) (W0 : World) (b : Nat) (l : Tx) (w : World) (v : Value) (xs : List ByteArray) (h : SP m W0 b l w) (hs : SL w v xs) (hn : xs.length ≤ 1048576) (L' : Tx) (hL : L' = l ++ layT (xs.map byt) ++ [10]) (hz : L'.length ≤ 4398046511104) :
    Calls Tryz.prog 32 #[.pointer (some ⟨b, 0, none⟩), v] w fun e w' => e = .returned (.tuple #[]) ∧ Hid (SP m W0 b L' w' ∧ Kp b w w') := by
  subst hL
  refine (line_any m W0.heap.size b l w v xs h.1 h.2.size hs hn (by simp at hz ⊢; omega)).mono ?_
  rintro e w' ⟨he, h1, h2, h3⟩
  exact ⟨he, Lib.hid ⟨⟨h1, h.2.trans h2⟩, h3⟩⟩
section
variable (m : LMod) (W0 : World) (b : Nat) (hO : Ops W0) (hT : TabOk W0) (hm : ModIn W0.heap.size W0 m) (hw : MWf m) (hn : NumOk m) (hq : sayB wdB (modD m) = true)
include hO hT hm hw hn hq
set_option maxRecDepth 100000 in
set_option maxHeartbeats 8000000 in
theorem function_any (i : Nat) (hi : i < m.fs.length) (w : World) (hS : SP m W0 b (tF (modD m) i) w) :
    Calls Tryz.prog 35 #[.pointer (some ⟨b, 0, none⟩), .agg (fnC m.fs[i]).toArray] w fun e w' => e = .returned (.tuple #[]) ∧ Hid (SP m W0 b (tF (modD m) (i + 1)) w') := by
  have hst := fsteps m hw hn hq i hi
  have hfm := List.getElem_mem hi
  have hnm := hw.fs _ hfm
  have hps := (ps_small hw).1 _ hfm
  have hfb : m.fs[i].bs.length ≤ 1048576 := by
    have h1 := fs_small m hw _ hfm
    have h2 := blksZ_len (m.fs[i].bs.map blkD)
    rw [List.length_map] at h2
    have h4 : fnZ (fnD m.fs[i]) = 1 + m.fs[i].ps.length + blksZ (m.fs[i].bs.map blkD) := rfl
    omega
  have hfi := hm.2.2.2.2.2.2 _ hfm
  have hB := say_ins hq _ hfm
  have hI := hn.is _ hfm
  have hZ := ins_small hw _ hfm
  obtain ⟨f, ef⟩ : ∃ f, m.fs[i] = f := ⟨_, rfl⟩
  rw [ef] at hst hnm hps hfb hfi hB hI hZ ⊢
  clear ef hfm
  obtain ⟨U4, U5, hst⟩ : ∃ U4 U5, FSteps m i f U4 U5 (tF (modD m) i) (tF (modD m) (i + 1)) := ⟨_, _, hst⟩
  obtain ⟨L, eL⟩ : ∃ L, tF (modD m) i = L := ⟨_, rfl⟩
  obtain ⟨L', eL'⟩ : ∃ L, tF (modD m) (i + 1) = L := ⟨_, rfl⟩
  rw [eL] at hst hS
  rw [eL'] at hst ⊢
  clear eL eL'
  obtain ⟨nm, pp, pn, pc, ps, rt, bp, bn, bc, bs⟩ := f
  obtain ⟨hpi, hbi⟩ := hfi
  simp only at hnm hps hfb hpi hbi hB hI hZ
  -- what the calls answer, at any later world of the speller
  have cH : ∀ w', Hid (SP m W0 b L w' ∧ HBx w.heap.size [.string nm, .slice pp pn pc, .int .i64 rt, .slice bp bn bc] 45 w') → Calls Tryz.prog 34 #[.string nm, .slice pp pn pc] w' fun e w'' => e = .returned (.string (mkS (hdT nm ps))) ∧ Hid (SP m W0 b L w'' ∧ HBx w.heap.size [.string nm, .slice pp pn pc, .int .i64 rt, .slice bp bn bc] 45 w'') := fun w' h =>
    (sHead_any nm pp pn pc ps hnm hps w' (hT.later h.out.1.2) (hpi.lasts lasts_NoMem h.out.1.2 h.out.1.2.size)).mono fun e w'' ⟨he, hb⟩ => ⟨he, Lib.hid ⟨h.out.1.later hb, h.out.2.later hb⟩⟩
  have cT : ∀ w', Hid (SP m W0 b L w' ∧ HBx w.heap.size [.string nm, .slice pp pn pc, .int .i64 rt, .slice bp bn bc] 45 w') → Calls Tryz.prog 12 #[.int .i64 rt] w' fun e w'' => e = .returned (.string (mkS (typeT rt))) ∧ Hid (SP m W0 b L w'' ∧ HBx w.heap.size [.string nm, .slice pp pn pc, .int .i64 rt, .slice bp bn bc] 45 w'') := fun w' h =>
    (sType_any rt w' (hT.later h.out.1.2)).mono fun e w'' ⟨he, hb⟩ => ⟨he, Lib.hid ⟨h.out.1.later hb, h.out.2.later hb⟩⟩
  have hbw : w.heap.size ≠ b := fun e => by have h := hS.1.lt; omega
  have e3 : [(⟨#[102, 117, 110, 99]⟩ : ByteArray), mkS (hdT nm ps), mkS (typeT rt)].map byt = [[102, 117, 110, 99], hdT nm ps, typeT rt] := by
    show [byt ⟨#[102, 117, 110, 99]⟩, byt (mkS (hdT nm ps)), byt (mkS (typeT rt))] = _
    rw [byt_mkS, byt_mkS]
    rfl
  have cL1 : ∀ v w', Hid (SP m W0 b L w' ∧ HBx w.heap.size [.string nm, .slice pp pn pc, .int .i64 rt, .slice bp bn bc] 45 w' ∧ SL w' v [(⟨#[102, 117, 110, 99]⟩ : ByteArray), mkS (hdT nm ps), mkS (typeT rt)]) → Calls Tryz.prog 32 #[.pointer (some ⟨b, 0, none⟩), v] w' fun e w'' => e = .returned (.tuple #[]) ∧ Hid (SP m W0 b (U4 0) w'' ∧ HBx w.heap.size [.string nm, .slice pp pn pc, .int .i64 rt, .slice bp bn bc] 45 w'') := fun v w' h =>
    (lineP m W0 b L w' v _ h.out.1 h.out.2.2 (by simp) (U4 0) (by rw [e3]; exact hst.b0) (hst.z4 0)).mono fun e w'' ⟨he, hb⟩ => ⟨he, Lib.hid ⟨hb.out.1, h.out.2.1.kp hbw (by decide) hb.out.2⟩⟩
  have cB : ∀ j (hj : j < bs.length) w', SP m W0 b (U4 j) w' → Calls Tryz.prog 79 #[.int .i64 (j : Int)] w' (StrV (mkS (blockT (j : Int))) w') := fun j hj w' h => sBlock_any j (by omega) w' (hT.later h.2)
  have cL2 : ∀ j (hj : j < bs.length) v w', SP m W0 b (U4 j) w' → SL w' v [mkS (blockT (j : Int)) ++ ⟨#[58]⟩] → Calls Tryz.prog 32 #[.pointer (some ⟨b, 0, none⟩), v] w' fun e w'' => e = .returned (.tuple #[]) ∧ Hid (SP m W0 b (U5 j 0) w'' ∧ Kp b w' w'') := fun j hj v w' h hs =>
    lineP m W0 b (U4 j) w' v _ h hs (by simp) (U5 j 0) (by
      have e : [mkS (blockT (j : Int)) ++ (⟨#[58]⟩ : ByteArray)].map byt = [blockT (j : Int) ++ [58]] := by
        show [byt (mkS (blockT (j : Int)) ++ mkS [58])] = _
        rw [mkS_app, byt_mkS]
      rw [e]
      exact hst.c0 j hj) (hst.z5 j hj 0)
  have cL4 : ∀ v w', SP m W0 b (U4 bs.length) w' → SL w' v [⟨#[101, 110, 100]⟩] → Calls Tryz.prog 32 #[.pointer (some ⟨b, 0, none⟩), v] w' fun e w'' => e = .returned (.tuple #[]) ∧ Hid (SP m W0 b L' w'' ∧ Kp b w' w'') := fun v w' h hs =>
    lineP m W0 b (U4 bs.length) w' v _ h hs (by simp) L' hst.fe hst.zL
  have cW : ∀ j (hj : j < bs.length) k (hk : k < bs[j].code.length) w', SP m W0 b (U5 j k) w' → Calls Tryz.prog 73 #[.pointer (some ⟨b, 3, none⟩), .string ⟨#[32, 32]⟩] w' fun e w'' => e = .returned (.tuple #[.int .i64 2, .nilIface]) ∧ Hid (SP m W0 b (U5 j k ++ [32, 32]) w'' ∧ Kp b w' w'') := fun j hj k hk w' h =>
    (WriteString_any (pre := modC m) lies_sp W0.heap.size b (U5 j k) ⟨#[32, 32]⟩ w' h.1 (by have := hst.z5 j hj k; show (U5 j k).length + 2 ≤ _; omega)).mono fun e w'' ⟨he, h1, h2, h3⟩ => ⟨he, Lib.hid ⟨⟨h1.bld, h.2.trans h2⟩, h3⟩⟩
  have cI : ∀ j (hj : j < bs.length) k (hk : k < bs[j].code.length) w' l, SP m W0 b l w' → Calls Tryz.prog 80 #[.pointer (some ⟨b, 0, none⟩), .agg (liC bs[j].code[k]).toArray] w' (OwnS ((instrP (modD m) (insD bs[j].code[k])).map mkS) w') := fun j hj k hk w' l h => by
    have a2 := List.getElem_mem hj
    have a3 := List.getElem_mem hk
    exact instruction_any m _ b w' (hO.later h.2) (hT.later h.2) (lasts_Mod _ _ _ _ _ h.2 h.2.size hm) hw.len (lasts_Ins _ _ _ _ _ h.2 h.2.size (hbi.2.2.2.2 _ a2 |>.2.2.2.2 _ a3)) h.1.mb (hB _ a2 _ a3) (hI _ a2 _ a3) (hZ _ a2 _ a3)
  have cL3 : ∀ j (hj : j < bs.length) k (hk : k < bs[j].code.length) v w', SP m W0 b (U5 j k ++ [32, 32]) w' → SL w' v ((instrP (modD m) (insD bs[j].code[k])).map mkS) → Calls Tryz.prog 32 #[.pointer (some ⟨b, 0, none⟩), v] w' fun e w'' => e = .returned (.tuple #[]) ∧ Hid (SP m W0 b (U5 j (k + 1)) w'' ∧ Kp b w' w'') := fun j hj k hk v w' h hs =>
    lineP m W0 b _ w' v _ h hs (by
      rw [List.length_map]
      have h4 := formP_len (modD m) (insD bs[j].code[k])
      unfold instrP
      split <;> simp <;> omega) (U5 j (k + 1)) (by
      have e : ((instrP (modD m) (insD bs[j].code[k])).map mkS).map byt = instrP (modD m) (insD bs[j].code[k]) := by
        rw [List.map_map]
        conv => rhs; rw [← List.map_id (instrP (modD m) (insD bs[j].code[k]))]
        exact List.map_congr_left fun x _ => byt_mkS x
      rw [e]
      exact hst.c j hj _ rfl k hk) (hst.z5 j hj (k + 1))
  have hb5 : ∀ j (hj : j < bs.length), U4 (j + 1) = U5 j bs[j].code.length := fun j hj => hst.b j hj _ rfl
  have hbz : ∀ j : Nat, j ≤ 1048576 → (mkS (blockT (j : Int))).size ≤ 21 := fun j hj => by rw [size_mkS]; exact blockT_len (by omega)
  have HK := Lib.hid (And.intro cB (And.intro cL2 (And.intro cL4 (And.intro cW (And.intro cI (And.intro cL3 (And.intro hb5 (And.intro hbz hbi))))))))
  have hbn : bn = bs.length := hbi.1
  have hbn2 : bn ≤ 1048576 := by omega
  have HBN := Lib.hid hbn
  have hal : Below w.heap.size w (w.alloc (.cells #[.string nm, .slice pp pn pc, .int .i64 rt, .slice bp bn bc] 45)) := (Below.refl _ _).alloc (Nat.le_refl _) _
  have S0 : Hid (SP m W0 b L (w.alloc (.cells #[.string nm, .slice pp pn pc, .int .i64 rt, .slice bp bn bc] 45)) ∧ HBx w.heap.size [.string nm, .slice pp pn pc, .int .i64 rt, .slice bp bn bc] 45 (w.alloc (.cells #[.string nm, .slice pp pn pc, .int .i64 rt, .slice bp bn bc] 45))) := Lib.hid ⟨hS.later hal, heap_new _ _⟩
  have SW := Lib.hid hS.2
  clear hst hnm hps hfb hpi hbi hB hI hZ hO hT hm hw hn hq hS hal cB cL2 cL4 cW cI cL3 hb5 hbz hbn hi e3
  show Calls Tryz.prog 35 #[.pointer (some ⟨b, 0, none⟩), .agg #[.string nm, .slice pp pn pc, .int .i64 rt, .slice bp bn bc]] w _
  obtain ⟨s1, es1⟩ : ∃ s, mkS (hdT nm ps) = s := ⟨_, rfl⟩
  obtain ⟨s2, es2⟩ : ∃ s, mkS (typeT rt) = s := ⟨_, rfl⟩
  simp only [es1, es2] at cH cT cL1
  clear es1 es2
  go_enter Tryz.func35, Tryz.ntmps35
  go_upto_region 1 with fail
  obtain ⟨w1, ew1⟩ : ∃ w1, (w.alloc (.cells #[.string nm, .slice pp pn pc, .int .i64 rt, .slice bp bn bc] 45)) = w1 := ⟨_, rfl⟩
  rw [ew1] at S0 ⊢
  clear ew1
  obtain ⟨F, eF⟩ : ∃ F, w.heap.size = F := ⟨_, rfl⟩
  simp only [eF] at S0 cH cT cL1 hbw ⊢
  clear eF
  have S0d : Hid (SP m W0 b L w1.drew ∧ HBx F [.string nm, .slice pp pn pc, .int .i64 rt, .slice bp bn bc] 45 w1.drew) := Lib.hid ⟨S0.out.1.later (below_drew (Below.refl _ _)), S0.out.2.later (below_drew (Below.refl _ _))⟩
  have z0 := S0.out.2.get 0 _ rfl
  have z1 := S0.out.2.get 1 _ rfl
  have z2 := S0.out.2.get 2 _ rfl
  go_region_law (first
    | (go_simp
       (with_reducible refine (cH _ ?pre).mono ?_)
       case pre => (first | exact S0 | exact S0d)
       rintro ee w5 ⟨rfl, h5⟩
       have y2 := h5.out.2.get 2 _ rfl)
    | (go_simp
       (with_reducible refine (cT _ ?pre).mono ?_)
       case pre => (first | exact h5 | exact S0 | exact S0d)
       rintro ee w6 ⟨rfl, h6⟩)
    | (go_simp
       (with_reducible refine (cL1 _ _ ?pre).mono ?_)
       case pre => (exact Lib.hid ⟨h6.out.1.alloc _, h6.out.2.later ((Below.refl _ _).alloc (Nat.le_refl _) _), (OS.lit w6 (Nat.le_refl _) [(⟨#[102, 117, 110, 99]⟩ : ByteArray), s1, s2] _ rfl 3 rfl (by decide)).sl⟩)
       rintro ee w7 ⟨rfl, h7⟩))
  all_goals
    have x3 := h7.out.2.get 3 _ rfl
    clear cH cT cL1 S0 S0d z0 z1 z2 y2 h5 h6
    go_wp2_with fail
    go_loopw [22] (fun ti wr => ∃ j : Nat, j ≤ bn ∧ ti = .int .i64 j ∧ Hid (SP m W0 b (U4 j) wr)) (fun ti _ => bn - (intOf ti).toNat)
    case atStart => exact ⟨0, Nat.zero_le _, rfl, Lib.hid h7.out.1⟩
    case round =>
      obtain ⟨j, hj, rfl, hS⟩ := hrel
      generalize wr = wo at *
      by_cases hlt : j < bn
      · have hj2 : j < bs.length := by have := HBN.out; omega
        obtain ⟨g, rfl, hgb, g0⟩ := row_B HK.out.2.2.2.2.2.2.2.2 j hj2
        have hci := HK.out.2.2.2.2.2.2.2.2.2.2.2.2 _ (List.getElem_mem hj2)
        have g0 := (hS.out.2.cell (p := g.add j) (by rw [add_block]; exact hgb)).trans g0
        have hcB := HK.out.1 j hj2
        have hcL2 := HK.out.2.1 j hj2
        have hcW := HK.out.2.2.2.1 j hj2
        have hcI := HK.out.2.2.2.2.1 j hj2
        have hcL3 := HK.out.2.2.2.2.2.1 j hj2
        have hb5 := HK.out.2.2.2.2.2.2.1 j hj2
        have hj20 : j ≤ 1048576 := by omega
        have hbz := HK.out.2.2.2.2.2.2.2.1 j hj20
        obtain ⟨c, ec⟩ : ∃ c, bs[j] = c := ⟨_, rfl⟩
        have hcW : ∀ k (hk : k < c.code.length) w', SP m W0 b (U5 j k) w' → Calls Tryz.prog 73 #[.pointer (some ⟨b, 3, none⟩), .string ⟨#[32, 32]⟩] w' fun e w'' => e = .returned (.tuple #[.int .i64 2, .nilIface]) ∧ Hid (SP m W0 b (U5 j k ++ [32, 32]) w'' ∧ Kp b w' w'') := by subst ec; exact hcW
        have hcI : ∀ k (hk : k < c.code.length) w' l, SP m W0 b l w' → Calls Tryz.prog 80 #[.pointer (some ⟨b, 0, none⟩), .agg (liC c.code[k]).toArray] w' (OwnS ((instrP (modD m) (insD c.code[k])).map mkS) w') := by subst ec; exact hcI
        have hcL3 : ∀ k (hk : k < c.code.length) v w', SP m W0 b (U5 j k ++ [32, 32]) w' → SL w' v ((instrP (modD m) (insD c.code[k])).map mkS) → Calls Tryz.prog 32 #[.pointer (some ⟨b, 0, none⟩), v] w' fun e w'' => e = .returned (.tuple #[]) ∧ Hid (SP m W0 b (U5 j (k + 1)) w'' ∧ Kp b w' w'') := by subst ec; exact hcL3
        rw [ec] at g0 hci hb5
        clear ec
        obtain ⟨cp, cn, cc, code⟩ := c
        simp only at g0 hb5 hcI hcL3
        have hci : ListIn liC InsIn W0.heap.size W0 cp cn cc code := hci
        have hcn : cn = code.length := hci.1
        have hcn2 : cn ≤ 9223372036854775807 := by have h1 := hci.2.1; have h2 := hci.2.2.1; unfold maxLen at h2; omega
        obtain ⟨s, es⟩ : ∃ s, mkS (blockT (j : Int)) = s := ⟨_, rfl⟩
        simp only [es] at hcB hcL2
        rw [es] at hbz
        clear es
        have hbo : wo.heap.size ≠ b := fun e => by have h := hS.out.1.lt; omega
        have hal : Below wo.heap.size wo (wo.alloc (.cells #[.slice cp cn cc] 42)) := (Below.refl _ _).alloc (Nat.le_refl _) _
        have S1 : Hid (SP m W0 b (U4 j) (wo.alloc (.cells #[.slice cp cn cc] 42)) ∧ HBx wo.heap.size [.slice cp cn cc] 42 (wo.alloc (.cells #[.slice cp cn cc] 42))) := Lib.hid ⟨hS.out.later hal, heap_new _ _⟩
        have hcb := hcB _ S1.out.1
        have HC := Lib.hid (And.intro hcL2 (And.intro hcW (And.intro hcI (And.intro hcL3 (And.intro hb5 (And.intro hci (And.intro hcn hbo)))))))
        clear hcB hcL2 hcW hcI hcL3 hb5 hci hcn hbo hS hal
        go_wp2_with fail
        refine hcb.mono ?_
        rintro e w2 ⟨rfl, hb2⟩
        have S2 := Lib.hid (And.intro (S1.out.1.later hb2) (S1.out.2.later hb2))
        have hal2 : Below w2.heap.size w2 (w2.alloc (.cells #[.string (s ++ ⟨#[58]⟩)] 9)) := (Below.refl _ _).alloc (Nat.le_refl _) _
        have hcl := HC.out.1 (.slice (some ⟨w2.heap.size, 0, none⟩) 1 1) (w2.alloc (.cells #[.string (s ++ ⟨#[58]⟩)] 9)) (S2.out.1.later hal2) (OS.lit w2 (Nat.le_refl _) [s ++ (⟨#[58]⟩ : ByteArray)] _ rfl 1 rfl (by decide)).sl
        have S2b := Lib.hid (S2.out.2.later hal2)
        clear hcb hb2 g0 hal2 S1 S2
        go_wp2_with fail
        refine hcl.mono ?_
        rintro e w3 ⟨rfl, h3⟩
        have S3 := Lib.hid (And.intro h3.out.1 (S2b.out.kp HC.out.2.2.2.2.2.2.2 (by decide) h3.out.2))
        clear hcl h3 S2b
        have q0 := S3.out.2.get 0 _ rfl
        go_wp2_with fail
        go_loopw [36] (fun ti wr => ∃ k : Nat, k ≤ cn ∧ ti = .int .i64 k ∧ Hid (SP m W0 b (U5 j k) wr)) (fun ti _ => cn - (intOf ti).toNat)
        case atStart => exact ⟨0, Nat.zero_le _, rfl, Lib.hid S3.out.1⟩
        case round =>
          obtain ⟨k, hk, rfl, hS⟩ := hrel
          generalize wr = wy at *
          by_cases hltk : k < cn
          · have hk2 : k < code.length := by have := HC.out.2.2.2.2.2.2.1; omega
            obtain ⟨h_, rfl, hhb, i0, i1, i2, i3, i4, i5, i6⟩ := row_L HC.out.2.2.2.2.2.1 k hk2
            have k0 := (hS.out.2.cell (p := h_.add (k * 7)) (by rw [add_block]; exact hhb)).trans i0
            have k1 := (hS.out.2.cell (p := ⟨(h_.add (k * 7)).block, (h_.add (k * 7)).off + 1, none⟩) (by dsimp only; rw [add_block]; exact hhb)).trans i1
            have k2 := (hS.out.2.cell (p := ⟨(h_.add (k * 7)).block, (h_.add (k * 7)).off + 2, none⟩) (by dsimp only; rw [add_block]; exact hhb)).trans i2
            have k3 := (hS.out.2.cell (p := ⟨(h_.add (k * 7)).block, (h_.add (k * 7)).off + 3, none⟩) (by dsimp only; rw [add_block]; exact hhb)).trans i3
            have k4 := (hS.out.2.cell (p := ⟨(h_.add (k * 7)).block, (h_.add (k * 7)).off + 4, none⟩) (by dsimp only; rw [add_block]; exact hhb)).trans i4
            have k5 := (hS.out.2.cell (p := ⟨(h_.add (k * 7)).block, (h_.add (k * 7)).off + 5, none⟩) (by dsimp only; rw [add_block]; exact hhb)).trans i5
            have k6 := (hS.out.2.cell (p := ⟨(h_.add (k * 7)).block, (h_.add (k * 7)).off + 6, none⟩) (by dsimp only; rw [add_block]; exact hhb)).trans i6
            have hcW := HC.out.2.1 k hk2
            have hcI := HC.out.2.2.1 k hk2
            have hcL3 := HC.out.2.2.2.1 k hk2
            obtain ⟨x, ex⟩ : ∃ x, code[k] = x := ⟨_, rfl⟩
            simp only [ex] at hcI hcL3 k0 k1 k2 k3 k4 k5 k6
            obtain ⟨IL, eIL⟩ : ∃ l, (instrP (modD m) (insD x)).map mkS = l := ⟨_, rfl⟩
            simp only [eIL] at hcI hcL3
            clear ex eIL i0 i1 i2 i3 i4 i5 i6
            obtain ⟨⟨op, rg, ty, nn, fl, ap, al, ac, tp, tl, tc, rs⟩, ts⟩ := x
            simp only at k0 k1 k2 k3 k4 k5 k6
            have hcI : ∀ w' l, SP m W0 b l w' → Calls Tryz.prog 80 #[.pointer (some ⟨b, 0, none⟩), .agg #[.int .i64 op, .int .i64 rg, .int .i64 ty, .int .i64 nn, .int .i64 fl, .slice ap al ac, .slice tp tl tc]] w' (OwnS IL w') := hcI
            have hby : wy.heap.size ≠ b := fun e => by have h := hS.out.1.lt; omega
            have hal : Below wy.heap.size wy (wy.alloc (.cells #[.int .i64 op, .int .i64 rg, .int .i64 ty, .int .i64 nn, .int .i64 fl, .slice ap al ac, .slice tp tl tc] 39)) := (Below.refl _ _).alloc (Nat.le_refl _) _
            have S4 : Hid (SP m W0 b (U5 j k) (wy.alloc (.cells #[.int .i64 op, .int .i64 rg, .int .i64 ty, .int .i64 nn, .int .i64 fl, .slice ap al ac, .slice tp tl tc] 39)) ∧ HBx wy.heap.size [.int .i64 op, .int .i64 rg, .int .i64 ty, .int .i64 nn, .int .i64 fl, .slice ap al ac, .slice tp tl tc] 39 (wy.alloc (.cells #[.int .i64 op, .int .i64 rg, .int .i64 ty, .int .i64 nn, .int .i64 fl, .slice ap al ac, .slice tp tl tc] 39))) := Lib.hid ⟨hS.out.later hal, heap_new _ _⟩
            have hcw := hcW _ S4.out.1
            have HD := Lib.hid (And.intro hcI (And.intro hcL3 hby))
            clear hcI hcL3 hby hcW hS hal q0
            go_wp2_with fail
            refine hcw.mono ?_
            rintro e w5 ⟨rfl, h5⟩
            have S5 := Lib.hid (And.intro h5.out.1 (S4.out.2.kp HD.out.2.2 (by decide) h5.out.2))
            clear hcw h5 S4 k0 k1 k2 k3 k4 k5 k6
            have y0 := S5.out.2.get 0 _ rfl
            have y1 := S5.out.2.get 1 _ rfl
            have y2 := S5.out.2.get 2 _ rfl
            have y3 := S5.out.2.get 3 _ rfl
            have y4 := S5.out.2.get 4 _ rfl
            have y5 := S5.out.2.get 5 _ rfl
            have y6 := S5.out.2.get 6 _ rfl
            have hci := HD.out.1 w5 _ S5.out.1
            go_wp2_with fail
            refine hci.mono ?_
            rintro e w6 ⟨v, rfl, hO, hb6⟩
            have hcl := HD.out.2.1 v w6 (S5.out.1.later hb6) hO.sl
            clear hci hO hb6 y0 y1 y2 y3 y4 y5 y6
            go_wp2_with fail
            refine hcl.mono ?_
            rintro e w7 ⟨rfl, h7_⟩
            have S7 := Lib.hid h7_.out.1
            clear hcl h7_
            go_wp2_with fail
            exact ⟨⟨k + 1, by omega, by go_num, S7⟩, by simp [intOf]; omega⟩
          · obtain rfl : cn = k := by omega
            have hU : U5 j cn = U4 (j + 1) := by rw [HC.out.2.2.2.2.1, HC.out.2.2.2.2.2.2.1]
            have S7 := Lib.hid hS.out
            rw [hU] at S7
            clear hS q0 hU
            go_wp2_with fail
            exact ⟨⟨j + 1, by omega, by go_num, S7⟩, by simp [intOf]; omega⟩
      · obtain rfl : bn = j := by omega
        have S8 : Hid (SP m W0 b (U4 bs.length) wo) := Lib.hid (by have := hS.out; rw [HBN.out] at this; exact this)
        have hal : Below wo.heap.size wo (wo.alloc (.cells #[.string ⟨#[101, 110, 100]⟩] 9)) := (Below.refl _ _).alloc (Nat.le_refl _) _
        have hcl := HK.out.2.2.1 (.slice (some ⟨wo.heap.size, 0, none⟩) 1 1) (wo.alloc (.cells #[.string ⟨#[101, 110, 100]⟩] 9)) (S8.out.later hal) (OS.lit wo (Nat.le_refl _) [(⟨#[101, 110, 100]⟩ : ByteArray)] _ rfl 1 rfl (by decide)).sl
        clear hS hal
        go_wp2_with fail
        refine hcl.mono ?_
        rintro e w3 ⟨rfl, h3⟩
        have S9 := Lib.hid h3.out.1
        clear hcl h3
        go_wp2_with fail
        go_end0
        exact ⟨rfl, S9⟩
end
end Go.Proofs.YtmampoakdjjbiaaGreatDoor
