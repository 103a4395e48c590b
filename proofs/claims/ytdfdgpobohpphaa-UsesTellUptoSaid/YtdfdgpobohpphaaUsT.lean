/- UsesTell: the walk. -/
import Derived.Test.YtdfdgpobohpphaaRuG
import Derived.Test.YtdfdgpobohpphaaUsS
import Derived.Deep.DeepCutAuto
import Derived.Deep.QuietTactic
import Derived.BigQuiet
namespace Go.Proofs.Ytdfdgpobohpphaa
open Go.RowKit Go.Maps
set_option linter.unusedVariables false
set_option linter.unusedSimpArgs false
set_option maxRecDepth 100000
set_option maxHeartbeats 4000000

/-- A new function's cells. -/
abbrev zF : List Value := [.string { data := #[] }, .slice none 0 0, .int .i64 0, .slice none 0 0]
theorem Stands.put' {W w : World} {R : List (Nat × List Value)} {O : List Owned} (h : Stands W R O w) {g : Nat} (hg : g = w.heap.size) (cs : List Value) (t : TypeId) : Stands W ((g, cs) :: R) O (w.alloc (.cells cs.toArray t)) := by
  subst hg; exact h.put cs t
/-- Two functions alike, in boxes, each in memory of its own. -/
def TwoF (W : World) (D : PFn) (N0 : Nat) (R : List (Nat × List Value)) (O : List Owned) (s t : Value) (w : World) : Prop :=
  ∃ bg bh lg hg lh hh g h, s = .pointer (some ⟨bg, 0, none⟩) ∧ t = .pointer (some ⟨bh, 0, none⟩) ∧ fnD g = D ∧ fnD h = D ∧ Stands W ((bg, fnC g) :: (bh, fnC h) :: R) (fnO lg hg g :: fnO lh hh h :: O) w ∧
    N0 ≤ lg ∧ N0 ≤ lh ∧ (hg ≤ lh ∨ hh ≤ lg) ∧ (bg < lg ∨ hg ≤ bg) ∧ (bg < lh ∨ hh ≤ bg) ∧ (bh < lg ∨ hg ≤ bh) ∧ (bh < lh ∨ hh ≤ bh) ∧ bg ≠ bh ∧ N0 ≤ bg ∧ N0 ≤ bh
theorem two_mk {W w : World} {R : List (Nat × List Value)} {O : List Owned} {N0 : Nat} {D : PFn} {bg bh lg hg lh hh : Nat} {g h : LFn} (dg : fnD g = D) (dh : fnD h = D)
    (S : Stands W R (fnO lg hg g :: fnO lh hh h :: O) w) (B1 : Box bg (fnC g) w) (B2 : Box bh (fnC h) w)
    (n : N0 ≤ lg ∧ N0 ≤ lh ∧ (hg ≤ lh ∨ hh ≤ lg) ∧ (bg < lg ∨ hg ≤ bg) ∧ (bg < lh ∨ hh ≤ bg) ∧ (bh < lg ∨ hg ≤ bh) ∧ (bh < lh ∨ hh ≤ bh) ∧ bg ≠ bh ∧ N0 ≤ bg ∧ N0 ≤ bh) :
    TwoF W D N0 R O (.pointer (some ⟨bg, 0, none⟩)) (.pointer (some ⟨bh, 0, none⟩)) w := by
  refine ⟨bg, bh, lg, hg, lh, hh, g, h, rfl, rfl, dg, dh, ⟨S.past, fun x hx => ?_, S.own⟩, n⟩
  rcases List.mem_cons.1 hx with rfl | hx
  · exact B1
  rcases List.mem_cons.1 hx with rfl | hx
  · exact B2
  · exact S.box x hx
/-- A block that is nobody's. -/
def Free (W : World) (R : List (Nat × List Value)) (O : List Owned) (b : Nat) : Prop := W.heap.size ≤ b ∧ (∀ x ∈ R, x.1 ≠ b) ∧ ∀ x ∈ O, x.2.1 ≤ b ∨ b < x.1
theorem Stands.set1 {W w : World} {R : List (Nat × List Value)} {O : List Owned} {b i : Nat} {v : Value} (h : Stands W R O w) (hf : Free W R O b) : Stands W R O (w.setCell ⟨b, i, none⟩ v) := by
  obtain ⟨h1, h2, h3⟩ := hf
  have ho : Out b (b + 1) w (w.setCells b i [v]) := out_setCells (Nat.le_refl _) (Nat.lt_succ_self _) [v] i w
  exact h.out ho h1 (fun x hx => by have := h2 x hx; omega) (fun x hx => by have := h3 x hx; omega)
theorem Box.fill4 {b : Nat} {x0 x1 x2 x3 a0 a1 a2 a3 : Value} {w : World} (h : Box b [x0, x1, x2, x3] w) : Box b [a0, a1, a2, a3] ((((w.setCell ⟨b, 0, none⟩ a0).setCell ⟨b, 1, none⟩ a1).setCell ⟨b, 2, none⟩ a2).setCell ⟨b, 3, none⟩ a3) :=
  (((h.set 0 a0).set 1 a1).set 2 a2).set 3 a3
theorem Box.fresh (w : World) {g : Nat} (hg : g = w.heap.size) (a b c d : Value) (t : TypeId) : Box g [a, b, c, d] (w.alloc (.cells #[a, b, c, d] t)) := Box.new w hg [a, b, c, d] t
theorem Box.else4 {g b : Nat} {cs : List Value} {a0 a1 a2 a3 : Value} {w : World} (h : Box g cs w) (hd : b ≠ g) : Box g cs ((((w.setCell ⟨b, 0, none⟩ a0).setCell ⟨b, 1, none⟩ a1).setCell ⟨b, 2, none⟩ a2).setCell ⟨b, 3, none⟩ a3) :=
  (((h.other hd 0 a0).other hd 1 a1).other hd 2 a2).other hd 3 a3
theorem Stands.bx {W w : World} {R : List (Nat × List Value)} {O : List Owned} (S : Stands W R O w) {b : Nat} (h : (b, zF) ∈ R) : Box b zF w := S.box _ h
theorem drewM (B : Nat) (w : World) (n : Nat) : Below B w (w.drewN n) := ⟨rfl, rfl, rfl, Nat.le_refl _, fun _ _ => rfl⟩
/-- What stays as it is at u. -/
def stO (a b : Nat) (u : World) : Owned := (a, b, fun w => Stay a b u w)
theorem FnOwn.le' {a b : Nat} {w : World} {y : LFn} (h : FnOwn a b w y) : a ≤ b := by
  obtain ⟨d, h1, h2⟩ := h
  exact Nat.le_trans h1.le h2.le

/-- The two tables, row by row. -/
theorem two_rows {B B2 : Nat} {W1 W2 w : World} {p : Option Addr} {c R : Nat} {L : NL} {L2 : List CRb} {T : List (List Bool)} (h1 : tbl L = T) (h2 : L2.map (fun x => x.2.2) = T)
    (s1 : St B W1 (As.and (rw' B 36 1 cB p L.length c L) (bAs L)) w) (s2 : St B2 W2 (clAb B2 R L2) w) (b : Nat) (hb : b < T.length) :
    ∃ gl RA pB cB', p = some ⟨gl, 0, none⟩ ∧ w.cell? ⟨gl, b, none⟩ = some (.slice (some ⟨RA, 0, none⟩) T[b].length T[b].length) ∧ w.cell? ⟨R, b, none⟩ = some (.slice pB T[b].length cB') ∧ T[b].length ≤ maxLen ∧
      ∀ i (hi : i < T[b].length), w.cell? ⟨RA, i, none⟩ = some (.bool T[b][i]) ∧ ∃ RB, pB = some ⟨RB, 0, none⟩ ∧ w.cell? ⟨RB, i, none⟩ = some (.bool T[b][i]) := by
  have hl1 : b < L.length := by rw [← h1] at hb; simpa [tbl] using hb
  have hl2 : b < L2.length := by rw [← h2] at hb; simpa using hb
  have e1 : L[b].2 = T[b] := by subst h1; simp [tbl]
  have e2 : L2[b].2.2 = T[b] := by subst h2; simp
  obtain ⟨gl, rfl, _, _, _, _, hc1⟩ := row_cell s1.sat.1 (fun _ => rfl) b hl1
  have n1 : w.cell? ⟨gl, b, none⟩ = some (.slice (some ⟨L[b].1, 0, none⟩) L[b].2.length L[b].2.length) := by
    have := hc1 0 (by decide)
    simpa [cB] using this
  have hbr : BoolRow L[b].1 L[b].2 w := (St.imp (Y := As.and (bAs L) As.emp) s1 ⟨fun w x => ⟨x.2, trivial⟩, fun k => by simp only [As.and_c, As.emp_c]; omega⟩).getB b hl1
  have hca : (clAb B2 R L2).sat w := s2.sat
  obtain ⟨n2, _, _⟩ := cCb_row hca.1 b hl2
  have hbr2 : rowP B2 4 1 bC L2[b].1 L2[b].2.2.length L2[b].2.1 L2[b].2.2 w := As.all_mem _ hca.2 L2[b] (List.getElem_mem hl2)
  rw [e1] at n1 hbr
  rw [e2] at n2 hbr2
  refine ⟨gl, _, _, _, rfl, n1, n2, ?_, fun i hi => ⟨hbr.cell i hi, ?_⟩⟩
  · rcases Nat.eq_zero_or_pos T[b].length with e | e
    · rw [e]; exact Nat.zero_le _
    · obtain ⟨_, _, _, _, h3, h4, _⟩ := row_cell hbr2 (fun _ => rfl) 0 e
      exact Nat.le_trans h3 h4
  · obtain ⟨R3, h3, _, _, _, _, h4⟩ := row_cell hbr2 (fun _ => rfl) i hi
    have := h4 0 (by decide)
    exact ⟨R3, h3, by simpa [bC] using this⟩

theorem usesTell_walk (f : LFn) (W : World) (h : FnIn W.heap.size W f) (hwf : FnWf f) (hz : fnZ (fnD f) ≤ 1048576) :
    Calls Try.prog 3 #[.agg (fnC f).toArray] W fun e w' => e = .returned (.bool true) ∧ Below W.heap.size W w' := by
  have cl := lives_any
  have hwp := wfP_of hwf
  have hfew : ∀ w1, Calls Try.prog 6 #[.agg #[.slice none 0 0, .slice none 0 0, .slice (some ⟨w1.heap.size, 0, none⟩) 1 1], .int .i64 600] (w1.alloc (.cells (fnC f).toArray 25)) (SomeBool (w1.alloc (.cells (fnC f).toArray 25))) ∨ ¬ FnIn w1.heap.size w1 f := fun w1 => by
    by_cases c : FnIn w1.heap.size w1 f
    · exact .inl (Few_any (oneM w1.heap.size f) 600 _ (one_in c rfl rfl))
    · exact .inr c
  have hTl : (ndT (nfs (fnD f))).length ≤ 1048576 := by
    rw [ndT_len]
    have h1 : (nfs (fnD f)).length = (fnD f).bs.length := by unfold nfs; simp
    have h2 : ∀ l : List (List PIns), l.length ≤ blksZ l := fun l => by
      induction l with
      | nil => exact Nat.zero_le _
      | cons c l ih => unfold blksZ at ih ⊢; simp only [List.length_cons, List.map_cons, List.sum_cons]; omega
    have h3 := h2 (fnD f).bs
    unfold fnZ at hz
    omega
  obtain ⟨T, eT⟩ : ∃ T, ndT (nfs (fnD f)) = T := ⟨_, rfl⟩
  rw [eT] at hTl
  have HT := Lib.hid (And.intro eT hTl)
  clear hTl eT
  obtain ⟨nm, pp, pn, pc, ps, rt, bp, bn, bc, bs⟩ := f
  simp only [fnC] at hfew
  show Calls Try.prog 3 #[.agg #[.string nm, .slice pp pn pc, .int .i64 rt, .slice bp bn bc]] W _
  have S0 : Stands W [(W.heap.size, [.string nm, .slice pp pn pc, .int .i64 rt, .slice bp bn bc])] [] (W.alloc (.cells #[.string nm, .slice pp pn pc, .int .i64 rt, .slice bp bn bc] 25)) := (Stands.start W).put' rfl [.string nm, .slice pp pn pc, .int .i64 rt, .slice bp bn bc] 25
  obtain ⟨f, ef⟩ : ∃ f : LFn, f = ⟨nm, pp, pn, pc, ps, rt, bp, bn, bc, bs⟩ := ⟨_, rfl⟩
  rw [← ef] at h hz hwp hfew HT
  have HFC : Hid (fnC f = [.string nm, .slice pp pn pc, .int .i64 rt, .slice bp bn bc]) := Lib.hid (by rw [ef]; rfl)
  have HH := Lib.hid h
  have HZ := Lib.hid hz
  have HWP := Lib.hid hwp
  have HFEW := Lib.hid hfew
  clear h hz ef hwp hwf hfew
  go_enter Try.func3, Try.ntmps3
  go_wp2_with fail
  refine (cl _).mono ?_
  rintro e w1 ⟨rfl, hb1⟩
  have S1 := S0.later hb1
  clear hb1 cl S0
  have y0 := S1.get (b := W.heap.size) (.head _) 0 _ rfl
  have y1 := S1.get (b := W.heap.size) (.head _) 1 _ rfl
  have y2 := S1.get (b := W.heap.size) (.head _) 2 _ rfl
  have y3 := S1.get (b := W.heap.size) (.head _) 3 _ rfl
  have HS1 := Lib.hid S1
  clear S1
  go_wp2_with fail
  refine ((HFEW.out w1).resolve_right (fun c => c (HS1.out.arg HH.out))).mono ?_
  rintro e w2 ⟨few, rfl, hb2⟩
  have S2 := (HS1.out.alloc (.cells #[.string nm, .slice pp pn pc, .int .i64 rt, .slice bp bn bc] 25)).later hb2
  have HS2 := Lib.hid S2
  clear y0 y1 y2 y3 HS1 hb2
  have y0 := S2.get (b := W.heap.size) (.head _) 0 _ rfl
  have y1 := S2.get (b := W.heap.size) (.head _) 1 _ rfl
  have y2 := S2.get (b := W.heap.size) (.head _) 2 _ rfl
  have y3 := S2.get (b := W.heap.size) (.head _) 3 _ rfl
  clear S2 HFEW
  cases few with
  | false =>
    go_wp2_with fail
    go_ret
    exact ⟨rfl, HS2.out.past.2⟩
  | true =>
  go_wp2_with fail
  have hcr := rCopyFunc_own f w2 (HS2.out.arg HH.out) HZ.out
  rw [HFC.out] at hcr
  refine hcr.mono ?_
  rintro e w3 ⟨mine, he, hdm, hp3, hom⟩
  clear hcr y0 y1 y2 y3
  obtain ⟨nm1, pp1, pn1, pc1, ps1, rt1, bp1, bn1, bc1, bs1⟩ := mine
  obtain rfl : e = .returned (.agg #[.string nm1, .slice pp1 pn1 pc1, .int .i64 rt1, .slice bp1 bn1 bc1]) := he
  obtain ⟨mine, em⟩ : ∃ m : LFn, m = ⟨nm1, pp1, pn1, pc1, ps1, rt1, bp1, bn1, bc1, bs1⟩ := ⟨_, rfl⟩
  rw [← em] at hdm hom
  have HMC : Hid (fnC mine = [.string nm1, .slice pp1 pn1 pc1, .int .i64 rt1, .slice bp1 bn1 bc1]) := Lib.hid (by rw [em]; rfl)
  have HDM := Lib.hid hdm
  have HMW : Hid (FnWf mine) := Lib.hid (of_wfP (by rw [hdm]; exact HWP.out))
  have S5 : Stands W [(w3.heap.size, [.string nm1, .slice pp1 pn1 pc1, .int .i64 rt1, .slice bp1 bn1 bc1]), (W.heap.size, [.string nm, .slice pp pn pc, .int .i64 rt, .slice bp bn bc])] [fnO w2.heap.size w3.heap.size mine] (w3.alloc (.cells #[.string nm1, .slice pp1 pn1 pc1, .int .i64 rt1, .slice bp1 bn1 bc1] 25)) := (HS2.out.more hp3 hom).put' rfl [.string nm1, .slice pp1 pn1 pc1, .int .i64 rt1, .slice bp1 bn1 bc1] 25
  have hn1 : W.heap.size < w2.heap.size := HS2.out.lt (.head _)
  have hn2 := hp3.2.size
  have hn3 : (w3.alloc (.cells #[.string nm1, .slice pp1 pn1 pc1, .int .i64 rt1, .slice bp1 bn1 bc1] 25)).heap.size = w3.heap.size + 1 := by simp
  have HS5 := Lib.hid S5
  clear S5 em hdm hom hp3 HS2
  obtain ⟨lm, elm⟩ : ∃ lm, w2.heap.size = lm := ⟨_, rfl⟩
  rw [elm] at HS5 hn1 hn2
  clear elm
  go_upto_region 6 with fail
  obtain ⟨w5, ew5⟩ : ∃ w5, w3.alloc (.cells #[.string nm1, .slice pp1 pn1 pc1, .int .i64 rt1, .slice bp1 bn1 bc1] 25) = w5 := ⟨_, rfl⟩
  rw [ew5] at HS5 hn3 ⊢
  clear ew5
  obtain ⟨bm, ebm⟩ : ∃ bm, w3.heap.size = bm := ⟨_, rfl⟩
  simp only [ebm] at HS5 hn2 hn3 ⊢
  clear ebm
  obtain ⟨hm, ehm⟩ : ∃ hm, hm = bm := ⟨_, rfl⟩
  have HS6 : Hid (Stands W [(bm, [.string nm1, .slice pp1 pn1 pc1, .int .i64 rt1, .slice bp1 bn1 bc1]), (W.heap.size, [.string nm, .slice pp pn pc, .int .i64 rt, .slice bp bn bc])] [fnO lm hm mine] w5) := Lib.hid (by rw [ehm]; exact HS5.out)
  clear HS5
  have hm1 : hm ≤ bm := Nat.le_of_eq ehm
  clear ehm
  have x0 := HS6.out.get (b := bm) (.head _) 0 _ rfl
  have x1 := HS6.out.get (b := bm) (.head _) 1 _ rfl
  have x2 := HS6.out.get (b := bm) (.head _) 2 _ rfl
  have x3 := HS6.out.get (b := bm) (.head _) 3 _ rfl
  clear hn3
  go_wp2_with fail
  have hnd := Needed_any mine w5 (HS6.out.fn (a := lm) (b := hm) (.head _)) HMW.out (by rw [HDM.out]; exact HZ.out)
  rw [HMC.out, HDM.out] at hnd
  refine hnd.mono ?_
  rintro e w6 ⟨pL, cL, L, rfl, hL, sL⟩
  clear hnd x0 x1 x2 x3
  have S7 := HS6.out.later sL.below
  have y0 := S7.get (b := W.heap.size) (.tail _ (.head _)) 0 _ rfl
  have y1 := S7.get (b := W.heap.size) (.tail _ (.head _)) 1 _ rfl
  have y2 := S7.get (b := W.heap.size) (.tail _ (.head _)) 2 _ rfl
  have y3 := S7.get (b := W.heap.size) (.tail _ (.head _)) 3 _ rfl
  have HS7 := Lib.hid S7
  have HL := Lib.hid (And.intro hL sL)
  clear S7 hL sL HS6
  go_wp2_with fail
  have hnd := rNeeded_any f w6 (HS7.out.arg HH.out) HZ.out
  rw [HFC.out] at hnd
  refine hnd.mono ?_
  rintro e w7 ⟨RR, L2, rfl, hL2, sL2⟩
  clear hnd y0 y1 y2 y3
  have S8 := HS7.out.later sL2.below
  have HS8 := Lib.hid S8
  have hlen1 : L.length = T.length := by rw [← HT.out.1, ← HL.out.1]; simp [tbl]
  have hlen2 : L2.length = T.length := by rw [← HT.out.1, ← hL2]; simp
  have hlen1' : L.length = L2.length := by omega
  have HR : Hid (∀ wr, Below w7.heap.size w7 wr → ∀ (b : Nat) (hb : b < T.length), ∃ gl RA pB cB', pL = some ⟨gl, 0, none⟩ ∧ wr.cell? ⟨gl, b, none⟩ = some (.slice (some ⟨RA, 0, none⟩) T[b].length T[b].length) ∧ wr.cell? ⟨RR, b, none⟩ = some (.slice pB T[b].length cB') ∧ T[b].length ≤ maxLen ∧
      ∀ i (hi : i < T[b].length), wr.cell? ⟨RA, i, none⟩ = some (.bool T[b][i]) ∧ ∃ RB, pB = some ⟨RB, 0, none⟩ ∧ wr.cell? ⟨RB, i, none⟩ = some (.bool T[b][i])) := Lib.hid (fun wr hb b hbt => by
    have s1 := (HL.out.2.later sL2.below).later hb
    exact two_rows (HL.out.1.trans HT.out.1) (hL2.trans HT.out.1) s1 (sL2.later hb) b hbt)
  obtain ⟨n, en⟩ : ∃ n, T.length = n := ⟨_, rfl⟩
  have hnn : n ≤ 1048576 := by rw [← en]; exact HT.out.2
  rw [en] at hlen1 hlen2
  simp only [hlen1, hlen2]
  have HEN := Lib.hid en
  clear S8 HL HS7 hL2 sL2 hlen1 hlen2 hlen1' en
  have hnz : (((n : Nat) : Int) != ((n : Nat) : Int)) = false := by simp
  go_wp2_with fail
  go_loopw [31] (fun t wr => ∃ b : Nat, b ≤ n ∧ t = .int .i64 b ∧ Below w7.heap.size w7 wr) (fun t _ => n - (intOf t).toNat)
  case atStart => exact ⟨0, Nat.zero_le _, rfl, Below.refl _ _⟩
  case round =>
    obtain ⟨b, hb, rfl, hB⟩ := hrel
    by_cases hlt : b < n
    · obtain ⟨gl, RA, pB, kB, rfl, a0, b0, kn, hrow⟩ := HR.out wr hB b (by rw [HEN.out]; exact hlt)
      obtain ⟨k, ek⟩ : ∃ k, (T[b]'(by rw [HEN.out]; exact hlt)).length = k := ⟨_, rfl⟩
      rw [ek] at a0 b0 kn
      unfold maxLen at kn
      have HK := Lib.hid (And.intro ek hB)
      clear hrow ek hB
      have hkz : (((k : Nat) : Int) != ((k : Nat) : Int)) = false := by simp
      go_wp2_with fail
      go_quiet (fail)
      go_wp2_with fail
      have hB2 := HK.out.2.trans (drewM w7.heap.size wr nq)
      have HEK := Lib.hid HK.out.1
      obtain ⟨wd, ewd⟩ : ∃ wd, wr.drewN nq = wd := ⟨_, rfl⟩
      have a1 : wd.cell? ⟨gl, b, none⟩ = some (.slice (some ⟨RA, 0, none⟩) k k) := by rw [← ewd]; exact a0
      rw [ewd] at hB2
      simp only [ewd]
      clear HK a0 b0 ewd
      have HBD := Lib.hid hB2
      clear hB2
      go_wp2_with fail
      go_loopw [50] (fun t wi => ∃ i : Nat, i ≤ k ∧ t = .int .i64 i ∧ Below w7.heap.size w7 wi) (fun t _ => k - (intOf t).toNat)
      case atStart => exact ⟨0, Nat.zero_le _, rfl, HBD.out⟩
      case round =>
        rename World => wi
        obtain ⟨i, hi, rfl, hI⟩ := hrel
        by_cases hil : i < k
        · have hbT : b < T.length := by rw [HEN.out]; exact hlt
          have hiT : i < T[b].length := by rw [HEK.out]; exact hil
          obtain ⟨gl', RA', pB', kB', e1, a0, b0, kn', hrow⟩ := HR.out wi hI b hbT
          injection e1 with e1
          injection e1 with e1
          subst e1
          obtain ⟨c0, RB, rfl, d0⟩ := hrow i hiT
          obtain ⟨v, ev⟩ : ∃ v, T[b][i] = v := ⟨_, rfl⟩
          rw [ev] at c0 d0
          have hek : T[b].length = k := HEK.out
          rw [hek] at a0 b0
          have hvv : (v != v) = false := by cases v <;> rfl
          have HI := Lib.hid hI
          clear hrow hI ev hiT hbT kn' hek a1
          go_wp2_with fail
          go_quiet (fail)
          go_wp2_with fail
          exact ⟨⟨i + 1, by omega, by go_num, HI.out.trans (drewM w7.heap.size wi nq)⟩, by simp [intOf]; omega⟩
        · obtain rfl : i = k := by omega
          have HI := Lib.hid hI
          clear hI
          go_wp2_with fail
          exact ⟨⟨b + 1, by omega, by go_num, HI.out⟩, by simp [intOf]; omega⟩
    · obtain rfl : b = n := by omega
      have S9 := HS8.out.later hB
      clear HR HS8 hB
      have x0 := S9.get (b := bm) (.head _) 0 _ rfl
      have x1 := S9.get (b := bm) (.head _) 1 _ rfl
      have x2 := S9.get (b := bm) (.head _) 2 _ rfl
      have x3 := S9.get (b := bm) (.head _) 3 _ rfl
      have HS9 := Lib.hid S9
      clear S9
      go_upto_region 22 with fail
      obtain ⟨D, hD⟩ : ∃ D, clF (fnD f) = D := ⟨_, rfl⟩
      have HDD := Lib.hid hD
      clear hD
      obtain ⟨wr0, ewr⟩ : ∃ x, x = wr := ⟨_, rfl⟩
      have hbN : bm < wr.heap.size := HS9.out.lt (.head _)
      clear ewr
      go_cut [8, 9] (fun s10 s11 wx => TwoF W D wr.heap.size [(bm, [.string nm1, .slice pp1 pn1 pc1, .int .i64 rt1, .slice bp1 bn1 bc1]), (W.heap.size, [.string nm, .slice pp pn pc, .int .i64 rt, .slice bp bn bc])] [fnO lm hm mine] s10 s11 wx)
      case first =>
        have S5 := HS9.out
        have hcR : ∀ w O, fnO lm hm mine ∈ O → Stands W [(bm, [.string nm1, .slice pp1 pn1 pc1, .int .i64 rt1, .slice bp1 bn1 bc1]), (W.heap.size, [.string nm, .slice pp pn pc, .int .i64 rt, .slice bp bn bc])] O w → Calls Try.prog 10 #[.agg #[.string nm1, .slice pp1 pn1 pc1, .int .i64 rt1, .slice bp1 bn1 bc1]] w fun e w' => ∃ nm9 pp9 pn9 pc9 ps9 rt9 bp9 bn9 bc9 bs9 lo hi, e = .returned (.agg #[.string nm9, .slice pp9 pn9 pc9, .int .i64 rt9, .slice bp9 bn9 bc9]) ∧ fnD ⟨nm9, pp9, pn9, pc9, ps9, rt9, bp9, bn9, bc9, bs9⟩ = D ∧ Below w.heap.size w w' ∧ FnOwn lo hi w' ⟨nm9, pp9, pn9, pc9, ps9, rt9, bp9, bn9, bc9, bs9⟩ ∧ Stands W [(bm, [.string nm1, .slice pp1 pn1 pc1, .int .i64 rt1, .slice bp1 bn1 bc1]), (W.heap.size, [.string nm, .slice pp pn pc, .int .i64 rt, .slice bp bn bc])] (fnO lo hi ⟨nm9, pp9, pn9, pc9, ps9, rt9, bp9, bn9, bc9, bs9⟩ :: O) w' ∧ w.heap.size ≤ lo ∧ lo ≤ hi ∧ hi ≤ w'.heap.size := by
          intro w O hO S
          have hc := Clean_any mine w (S.fn hO) HMW.out (by rw [HDM.out]; exact HZ.out)
          rw [HMC.out, HDM.out, HDD.out] at hc
          refine hc.mono ?_
          rintro e w' ⟨y, a, b, he, hd, hp, ho, ha, hb⟩
          have S' := S.owned hp ho ha hb
          have hab := ho.le'
          obtain ⟨nm9, pp9, pn9, pc9, ps9, rt9, bp9, bn9, bc9, bs9⟩ := y
          exact ⟨nm9, pp9, pn9, pc9, ps9, rt9, bp9, bn9, bc9, bs9, _, _, he, hd, hp, ho, S', ha, hab, hb⟩
        have lb5 := S5.lt (b := bm) (.head _)
        have lv5 := S5.lt (b := W.heap.size) (.tail _ (.head _))
        go_region_held3 (fun w' => w'.cell? ⟨bm, 0, none⟩ = some (.string nm1) ∧ w'.cell? ⟨bm, 1, none⟩ = some (.slice pp1 pn1 pc1) ∧ w'.cell? ⟨bm, 2, none⟩ = some (.int .i64 rt1) ∧ w'.cell? ⟨bm, 3, none⟩ = some (.slice bp1 bn1 bc1))
          (((try dsimp only); (repeat' apply And.intro) <;> ((repeat (first | rw [World.cell?_drew] | rw [World.cell?_alloc_past _ _ _ (by first | omega | (simp <;> omega) | (dsimp only; omega) | (dsimp only; simp <;> omega))] | rw [World.cell?_setCell_far _ _ _ _ (by dsimp only; first | omega | (simp <;> omega))])); with_reducible assumption)))
          (first
            | (fail_if_success (have := M1)
               (with_reducible refine (hcR _ [fnO lm hm mine] (List.mem_singleton.2 rfl) ?pre).mono ?_)
               case pre => (repeat (first | (with_reducible exact S5) | (with_reducible apply Stands.drew) | (with_reducible apply Stands.alloc)))
               rintro e w6 ⟨nm6, pp6, pn6, pc6, ps6, rt6, bp6, bn6, bc6, bs6, lo6, hi6, rfl, hd6, hp6, ho6, T6, hlo6, hlh6, hhi6⟩
               have M1 : True := trivial
               have S6 : Stands W _ _ w6 := Stands.owned (by repeat (first | (with_reducible exact S5) | (with_reducible apply Stands.drew) | (with_reducible apply Stands.put))) hp6 ho6 hlo6 hhi6
               have a0 := T6.get (b := bm) (.head _) 0 _ rfl
               have a1 := T6.get (b := bm) (.head _) 1 _ rfl
               have a2 := T6.get (b := bm) (.head _) 2 _ rfl
               have a3 := T6.get (b := bm) (.head _) 3 _ rfl
               have hz6 := hp6.size
               try simp only [World.size_alloc, World.size_drew] at hz6 hlo6
               have hnum1 : wr.heap.size ≤ lo6 := by omega
               have lb6 := T6.lt (b := bm) (.head _)
               have lv6 := T6.lt (b := W.heap.size) (.tail _ (.head _))
               try (obtain P0 : Box wr.heap.size zF w6
                    focus (apply Stands.bx S6; simp; done)
                    rename_i P0
                    have p0_s := P0.1
                    have p0_f := P0.2.1
                    have p0_0 := P0.get 0 _ rfl
                    have p0_1 := P0.get 1 _ rfl
                    have p0_2 := P0.get 2 _ rfl
                    have p0_3 := P0.get 3 _ rfl)
               try (obtain P1 : Box (wr.heap.size + 1) zF w6
                    focus (apply Stands.bx S6; simp; done)
                    rename_i P1
                    have p1_s := P1.1
                    have p1_f := P1.2.1
                    have p1_0 := P1.get 0 _ rfl
                    have p1_1 := P1.get 1 _ rfl
                    have p1_2 := P1.get 2 _ rfl
                    have p1_3 := P1.get 3 _ rfl))
            | ((with_reducible refine (hcR _ (fnO lo6 hi6 ⟨nm6, pp6, pn6, pc6, ps6, rt6, bp6, bn6, bc6, bs6⟩ :: [fnO lm hm mine]) (List.mem_cons_of_mem _ (List.mem_singleton.2 rfl)) ?pre).mono ?_)
               case pre => (repeat (first | (with_reducible exact T6) | (with_reducible apply Stands.drew) | (with_reducible apply Stands.alloc)))
               rintro e w7 ⟨nm7, pp7, pn7, pc7, ps7, rt7, bp7, bn7, bc7, bs7, lo7, hi7, rfl, hd7, hp7, ho7, T7, hlo7, hlh7, hhi7⟩
               have S7 : Stands W _ _ w7 := Stands.owned (by repeat (first | (with_reducible exact S6) | (with_reducible apply Stands.drew) | (with_reducible apply Stands.put))) hp7 ho7 hlo7 hhi7
               have hz7 := hp7.size
               try simp only [World.size_alloc, World.size_drew] at hz7 hlo7
               have hnum2 : w6.heap.size ≤ lo7 := by omega
               have lb7 := T7.lt (b := bm) (.head _)
               have lv7 := T7.lt (b := W.heap.size) (.tail _ (.head _))
               have b0 := T7.get (b := bm) (.head _) 0 _ rfl
               have b1 := T7.get (b := bm) (.head _) 1 _ rfl
               have b2 := T7.get (b := bm) (.head _) 2 _ rfl
               have b3 := T7.get (b := bm) (.head _) 3 _ rfl
               try (obtain Q0 : Box wr.heap.size zF w7
                    focus (apply Stands.bx S7; simp; done)
                    rename_i Q0
                    have q0_s := Q0.1
                    have q0_f := Q0.2.1
                    have q0_0 := Q0.get 0 _ rfl
                    have q0_1 := Q0.get 1 _ rfl
                    have q0_2 := Q0.get 2 _ rfl
                    have q0_3 := Q0.get 3 _ rfl)
               try (obtain Q1 : Box (wr.heap.size + 1) zF w7
                    focus (apply Stands.bx S7; simp; done)
                    rename_i Q1
                    have q1_s := Q1.1
                    have q1_f := Q1.2.1
                    have q1_0 := Q1.get 0 _ rfl
                    have q1_1 := Q1.get 1 _ rfl
                    have q1_2 := Q1.get 2 _ rfl
                    have q1_3 := Q1.get 3 _ rfl)
               try (obtain Q2 : Box w6.heap.size zF w7
                    focus (apply Stands.bx S7; simp; done)
                    rename_i Q2
                    have q2_s := Q2.1
                    have q2_f := Q2.2.1
                    have q2_0 := Q2.get 0 _ rfl
                    have q2_1 := Q2.get 1 _ rfl
                    have q2_2 := Q2.get 2 _ rfl
                    have q2_3 := Q2.get 3 _ rfl)
               try (obtain Q3 : Box (w6.heap.size + 1) zF w7
                    focus (apply Stands.bx S7; simp; done)
                    rename_i Q3
                    have q3_s := Q3.1
                    have q3_f := Q3.2.1
                    have q3_0 := Q3.get 0 _ rfl
                    have q3_1 := Q3.get 1 _ rfl
                    have q3_2 := Q3.get 2 _ rfl
                    have q3_3 := Q3.get 3 _ rfl)))
        all_goals (go_wp2_with fail; go_meet)
        all_goals
          have T7s : Stands W [(bm, [.string nm1, .slice pp1 pn1 pc1, .int .i64 rt1, .slice bp1 bn1 bc1]), (W.heap.size, [.string nm, .slice pp pn pc, .int .i64 rt, .slice bp bn bc])] (fnO lo6 hi6 ⟨nm6, pp6, pn6, pc6, ps6, rt6, bp6, bn6, bc6, bs6⟩ :: fnO lo7 hi7 ⟨nm7, pp7, pn7, pc7, ps7, rt7, bp7, bn7, bc7, bs7⟩ :: [fnO lm hm mine]) w7 := T7.sub (fun x hx => hx) (fun x hx => by
            rcases List.mem_cons.1 hx with rfl | hx
            · exact .tail _ (.head _)
            rcases List.mem_cons.1 hx with rfl | hx
            · exact .head _
            · exact .tail _ (.tail _ hx))
          have hWN : W.heap.size < wr.heap.size := lv5
          have hfree : ∀ b, wr.heap.size ≤ b → (b < lo6 ∨ hi6 ≤ b) → (b < lo7 ∨ hi7 ≤ b) → Free W [(bm, [.string nm1, .slice pp1 pn1 pc1, .int .i64 rt1, .slice bp1 bn1 bc1]), (W.heap.size, [.string nm, .slice pp pn pc, .int .i64 rt, .slice bp bn bc])] (fnO lo6 hi6 ⟨nm6, pp6, pn6, pc6, ps6, rt6, bp6, bn6, bc6, bs6⟩ :: fnO lo7 hi7 ⟨nm7, pp7, pn7, pc7, ps7, rt7, bp7, bn7, bc7, bs7⟩ :: [fnO lm hm mine]) b := fun b h1 h2 h3 => ⟨by omega, fun x hx => by
              simp only [List.mem_cons, List.not_mem_nil, or_false] at hx
              rcases hx with rfl | rfl <;> simp only <;> omega, fun x hx => by
              simp only [List.mem_cons, List.not_mem_nil, or_false] at hx
              rcases hx with rfl | rfl | rfl <;> simp only [fnO] <;> omega⟩
          clear T7 T6 S6 S7 S5 hp6 hp7 ho6 ho7 hcR HS9
          have HFREE := Lib.hid hfree
          clear hfree
          with_reducible refine two_mk (lg := lo6) (hg := hi6) (lh := lo7) (hh := hi7) hd6 hd7 ?S ?B1 ?B2 ?n
          case S => (repeat (first | (with_reducible exact T7s) | (with_reducible apply Stands.alloc) | (with_reducible refine Stands.set1 ?_ (HFREE.out _ ?_ ?_ ?_)))) <;> (try omega)
          case B1 => (show Box _ [.string nm6, .slice pp6 pn6 pc6, .int .i64 rt6, .slice bp6 bn6 bc6] _); (repeat (first | (with_reducible assumption) | (with_reducible refine Box.fresh _ ?_ _ _ _ _ _) | (with_reducible apply Box.alloc) | (with_reducible apply Box.fill4) | (with_reducible refine Box.else4 ?_ ?_))) <;> (first | (with_reducible rfl) | omega | (simp; done) | (simp <;> omega))
          case B2 => (show Box _ [.string nm7, .slice pp7 pn7 pc7, .int .i64 rt7, .slice bp7 bn7 bc7] _); (repeat (first | (with_reducible assumption) | (with_reducible refine Box.fresh _ ?_ _ _ _ _ _) | (with_reducible apply Box.alloc) | (with_reducible apply Box.fill4) | (with_reducible refine Box.else4 ?_ ?_))) <;> (first | (with_reducible rfl) | omega | (simp; done) | (simp <;> omega))
          case n => exact ⟨by omega, by omega, by omega, by omega, by omega, by omega, by omega, by omega, by omega, by omega⟩
      case rest =>
        obtain ⟨bg, bh, lg, hg, lh, hh, g, h, rfl, rfl, dg, dh, SC, n1, n2, n3, n4, n5, n6, n7, n8, n9, n10⟩ := hcut
        obtain ⟨N0, eN0⟩ : ∃ N0, wr.heap.size = N0 := ⟨_, rfl⟩
        rw [eN0] at hbN n1 n2 n9 n10
        clear eN0 HS9
        obtain ⟨nm2, pp2, pn2, pc2, ps2, rt2, bp2, bn2, bc2, bs2⟩ := g
        obtain ⟨g, eg⟩ : ∃ g : LFn, g = ⟨nm2, pp2, pn2, pc2, ps2, rt2, bp2, bn2, bc2, bs2⟩ := ⟨_, rfl⟩
        rw [← eg] at dg SC
        have HGC : Hid (fnC g = [.string nm2, .slice pp2 pn2 pc2, .int .i64 rt2, .slice bp2 bn2 bc2]) := Lib.hid (by rw [eg]; rfl)
        clear eg
        obtain ⟨nm3, pp3, pn3, pc3, ps3, rt3, bp3, bn3, bc3, bs3⟩ := h
        obtain ⟨h, eh⟩ : ∃ h : LFn, h = ⟨nm3, pp3, pn3, pc3, ps3, rt3, bp3, bn3, bc3, bs3⟩ := ⟨_, rfl⟩
        rw [← eh] at dh SC
        have HHC : Hid (fnC h = [.string nm3, .slice pp3 pn3 pc3, .int .i64 rt3, .slice bp3 bn3 bc3]) := Lib.hid (by rw [eh]; rfl)
        clear eh
        rw [HGC.out, HHC.out] at SC
        have hgs : hg ≤ wc.heap.size := (SC.own _ (.head _)).2.2.1
        have hhs : hh ≤ wc.heap.size := (SC.own _ (.tail _ (.head _))).2.2.1
        have bgs := SC.lt (.head _)
        have bhs := SC.lt (.tail _ (.head _))
        have HSC := Lib.hid SC
        have HDG := Lib.hid dg
        have HDH := Lib.hid dh
        have y0 := SC.get (b := W.heap.size) (.tail _ (.tail _ (.tail _ (.head _)))) 0 _ rfl
        have y1 := SC.get (b := W.heap.size) (.tail _ (.tail _ (.tail _ (.head _)))) 1 _ rfl
        have y2 := SC.get (b := W.heap.size) (.tail _ (.tail _ (.tail _ (.head _)))) 2 _ rfl
        have y3 := SC.get (b := W.heap.size) (.tail _ (.tail _ (.tail _ (.head _)))) 3 _ rfl
        clear SC dg dh
        go_wp2_with fail
        have hcr := rClean_any f wc (HSC.out.arg HH.out) HZ.out
        rw [HFC.out, HDD.out] at hcr
        refine hcr.mono ?_
        rintro e w8 ⟨want, he, hdw, hp8, how⟩
        clear hcr y0 y1 y2 y3
        obtain ⟨nm4, pp4, pn4, pc4, ps4, rt4, bp4, bn4, bc4, bs4⟩ := want
        obtain rfl : e = .returned (.agg #[.string nm4, .slice pp4 pn4 pc4, .int .i64 rt4, .slice bp4 bn4 bc4]) := he
        obtain ⟨want, em⟩ : ∃ m : LFn, m = ⟨nm4, pp4, pn4, pc4, ps4, rt4, bp4, bn4, bc4, bs4⟩ := ⟨_, rfl⟩
        rw [← em] at hdw how
        have HWC : Hid (fnC want = [.string nm4, .slice pp4 pn4 pc4, .int .i64 rt4, .slice bp4 bn4 bc4]) := Lib.hid (by rw [em]; rfl)
        have HDW := Lib.hid hdw
        have HOW := Lib.hid how
        have S8 := (HSC.out.moreO ⟨Nat.le_refl _, hp8⟩ (fun u => Stay wc.heap.size w8.heap.size w8 u) (Stay.refl _ _ _) (fun _ _ hs hq => hq.trans hs)).put' rfl [.string nm4, .slice pp4 pn4 pc4, .int .i64 rt4, .slice bp4 bn4 bc4] 25
        have hn4 := hp8.size
        have HS8 := Lib.hid S8
        clear S8 em hdw how hp8 HSC
        obtain ⟨lw, elw⟩ : ∃ lw, wc.heap.size = lw := ⟨_, rfl⟩
        simp only [elw] at HS8 hn4 hgs hhs bgs bhs HOW
        clear elw
        go_upto_region 24 with fail
        obtain ⟨w9, ew9⟩ : ∃ w9, w8.alloc (.cells #[.string nm4, .slice pp4 pn4 pc4, .int .i64 rt4, .slice bp4 bn4 bc4] 25) = w9 := ⟨_, rfl⟩
        rw [ew9] at HS8 ⊢
        clear ew9
        obtain ⟨bw, ebw⟩ : ∃ bw, w8.heap.size = bw := ⟨_, rfl⟩
        simp only [ebw] at HS8 HOW hn4 ⊢
        clear ebw
        obtain ⟨hw, ehw⟩ : ∃ hw, hw = bw := ⟨_, rfl⟩
        have HS9 : Hid (Stands W [(bw, [.string nm4, .slice pp4 pn4 pc4, .int .i64 rt4, .slice bp4 bn4 bc4]), (bg, [.string nm2, .slice pp2 pn2 pc2, .int .i64 rt2, .slice bp2 bn2 bc2]), (bh, [.string nm3, .slice pp3 pn3 pc3, .int .i64 rt3, .slice bp3 bn3 bc3]), (bm, [.string nm1, .slice pp1 pn1 pc1, .int .i64 rt1, .slice bp1 bn1 bc1]), (W.heap.size, [.string nm, .slice pp pn pc, .int .i64 rt, .slice bp bn bc])] [stO lw hw w8, fnO lg hg g, fnO lh hh h, fnO lm hm mine] w9) := Lib.hid (by rw [ehw]; exact HS8.out)
        have HO9 : Hid (∀ u, Stay lw hw w8 u → FnIn u.heap.size u want) := Lib.hid (by rw [ehw]; exact HOW.out)
        clear HS8 HOW
        have hw1 : hw ≤ bw := Nat.le_of_eq ehw
        have hw2 : lw ≤ hw := by omega
        clear ehw
        have S9 := HS9.out
        have xg0 := S9.get (b := bg) (.tail _ (.head _)) 0 _ rfl
        have xg1 := S9.get (b := bg) (.tail _ (.head _)) 1 _ rfl
        have xg2 := S9.get (b := bg) (.tail _ (.head _)) 2 _ rfl
        have xg3 := S9.get (b := bg) (.tail _ (.head _)) 3 _ rfl
        have xw0 := S9.get (b := bw) (.head _) 0 _ rfl
        have xw1 := S9.get (b := bw) (.head _) 1 _ rfl
        have xw2 := S9.get (b := bw) (.head _) 2 _ rfl
        have xw3 := S9.get (b := bw) (.head _) 3 _ rfl
        have hc := Funcs_any w9 g want (S9.fn (a := lg) (b := hg) (.tail _ (.head _))) (HO9.out _ (S9.own (stO lw hw w8) (.head _)).1)
        rw [HGC.out, HWC.out] at hc
        clear S9
        go_wp2_with fail
        refine hc.mono ?_
        clear hc
        rintro e w10 ⟨b, rfl, hb, hb10⟩
        obtain rfl := hb.2 (HDG.out.trans HDW.out.symm)
        clear hb xg0 xg1 xg2 xg3 xw0 xw1 xw2 xw3
        have S10 := HS9.out.later hb10
        have xm0 := S10.get (b := bm) (.tail _ (.tail _ (.tail _ (.head _)))) 0 _ rfl
        have xm1 := S10.get (b := bm) (.tail _ (.tail _ (.tail _ (.head _)))) 1 _ rfl
        have xm2 := S10.get (b := bm) (.tail _ (.tail _ (.tail _ (.head _)))) 2 _ rfl
        have xm3 := S10.get (b := bm) (.tail _ (.tail _ (.tail _ (.head _)))) 3 _ rfl
        have xf0 := S10.get (b := W.heap.size) (.tail _ (.tail _ (.tail _ (.tail _ (.head _))))) 0 _ rfl
        have xf1 := S10.get (b := W.heap.size) (.tail _ (.tail _ (.tail _ (.tail _ (.head _))))) 1 _ rfl
        have xf2 := S10.get (b := W.heap.size) (.tail _ (.tail _ (.tail _ (.tail _ (.head _))))) 2 _ rfl
        have xf3 := S10.get (b := W.heap.size) (.tail _ (.tail _ (.tail _ (.tail _ (.head _))))) 3 _ rfl
        have hc := Funcs_any w10 mine f (S10.fn (a := lm) (b := hm) (.tail _ (.tail _ (.tail _ (.head _))))) (S10.arg HH.out)
        rw [HMC.out, HFC.out] at hc
        have HS10 := Lib.hid S10
        clear S10 HS9 hb10
        go_wp2_with fail
        refine hc.mono ?_
        clear hc
        rintro e w11 ⟨b, rfl, hb, hb11⟩
        obtain rfl := hb.2 HDM.out
        clear hb xm0 xm1 xm2 xm3 xf0 xf1 xf2 xf3
        have S18 := HS10.out.later hb11
        have HS18 := Lib.hid S18
        clear HS10 hb11
        have kg0 := S18.get (b := bg) (.tail _ (.head _)) 0 _ rfl
        have kg1 := S18.get (b := bg) (.tail _ (.head _)) 1 _ rfl
        have kg2 := S18.get (b := bg) (.tail _ (.head _)) 2 _ rfl
        have kg3 := S18.get (b := bg) (.tail _ (.head _)) 3 _ rfl
        clear S18
        have cSp : ∀ w, Stands W [(bw, [.string nm4, .slice pp4 pn4 pc4, .int .i64 rt4, .slice bp4 bn4 bc4]), (bg, [.string nm2, .slice pp2 pn2 pc2, .int .i64 rt2, .slice bp2 bn2 bc2]), (bh, [.string nm3, .slice pp3 pn3 pc3, .int .i64 rt3, .slice bp3 bn3 bc3]), (bm, [.string nm1, .slice pp1 pn1 pc1, .int .i64 rt1, .slice bp1 bn1 bc1]), (W.heap.size, [.string nm, .slice pp pn pc, .int .i64 rt, .slice bp bn bc])] [stO lw hw w8, fnO lg hg g, fnO lh hh h, fnO lm hm mine] w → Calls Try.prog 13 #[.agg #[.string nm2, .slice pp2 pn2 pc2, .int .i64 rt2, .slice bp2 bn2 bc2]] w fun e w' => e = .returned (.tuple #[]) ∧ Stands W [(bw, [.string nm4, .slice pp4 pn4 pc4, .int .i64 rt4, .slice bp4 bn4 bc4]), (bg, [.string nm2, .slice pp2 pn2 pc2, .int .i64 rt2, .slice bp2 bn2 bc2]), (bh, [.string nm3, .slice pp3 pn3 pc3, .int .i64 rt3, .slice bp3 bn3 bc3]), (bm, [.string nm1, .slice pp1 pn1 pc1, .int .i64 rt1, .slice bp1 bn1 bc1]), (W.heap.size, [.string nm, .slice pp pn pc, .int .i64 rt, .slice bp bn bc])] [stO lw hw w8, fnO lh hh h, fnO lm hm mine] w' := by
          intro w S
          have hspo := Spoil_own g lg hg w (S.own _ (.tail _ (.head _))).2.2.1 (S.own _ (.tail _ (.head _))).1
          rw [HGC.out] at hspo
          refine hspo.mono ?_
          rintro e w18 ⟨he, ho18⟩
          exact ⟨he, Stands.out (S.sub (fun x hx => hx) (fun x hx => by simp only [List.mem_cons, List.not_mem_nil, or_false] at hx ⊢; rcases hx with rfl | rfl | rfl <;> simp)) ho18 (by omega) (fun x hx => by simp only [List.mem_cons, List.not_mem_nil, or_false] at hx; rcases hx with rfl | rfl | rfl | rfl | rfl <;> simp only <;> omega) (fun x hx => by simp only [List.mem_cons, List.not_mem_nil, or_false] at hx; rcases hx with rfl | rfl | rfl <;> simp only [fnO, stO] <;> omega)⟩
        go_wp2_with fail
        refine (cSp _ ?pre).mono ?_
        case pre => first | exact HS18.out | exact Stands.drew HS18.out
        clear cSp
        rintro e w18 ⟨rfl, S19⟩
        have hmo := (S19.own _ (.tail _ (.tail _ (.head _)))).1
        have hmz := (S19.own _ (.tail _ (.tail _ (.head _)))).2.2.1
        have hspm := Spoil_own mine lm hm _ hmz hmo
        rw [HMC.out] at hspm
        have jm0 := S19.get (b := bm) (.tail _ (.tail _ (.tail _ (.head _)))) 0 _ rfl
        have jm1 := S19.get (b := bm) (.tail _ (.tail _ (.tail _ (.head _)))) 1 _ rfl
        have jm2 := S19.get (b := bm) (.tail _ (.tail _ (.tail _ (.head _)))) 2 _ rfl
        have jm3 := S19.get (b := bm) (.tail _ (.tail _ (.tail _ (.head _)))) 3 _ rfl
        have HS19 := Lib.hid S19
        clear S19 hmo hmz HS18 kg0 kg1 kg2 kg3
        go_wp2_with fail
        refine hspm.mono ?_
        clear hspm
        rintro e w19 ⟨rfl, ho19⟩
        have S20 : Stands W [(bw, [.string nm4, .slice pp4 pn4 pc4, .int .i64 rt4, .slice bp4 bn4 bc4]), (bg, [.string nm2, .slice pp2 pn2 pc2, .int .i64 rt2, .slice bp2 bn2 bc2]), (bh, [.string nm3, .slice pp3 pn3 pc3, .int .i64 rt3, .slice bp3 bn3 bc3]), (bm, [.string nm1, .slice pp1 pn1 pc1, .int .i64 rt1, .slice bp1 bn1 bc1]), (W.heap.size, [.string nm, .slice pp pn pc, .int .i64 rt, .slice bp bn bc])] [stO lw hw w8, fnO lh hh h] w19 := Stands.out (HS19.out.sub (fun x hx => hx) (fun x hx => by simp only [List.mem_cons, List.not_mem_nil, or_false] at hx ⊢; rcases hx with rfl | rfl <;> simp)) ho19 (by omega) (fun x hx => by simp only [List.mem_cons, List.not_mem_nil, or_false] at hx; rcases hx with rfl | rfl | rfl | rfl | rfl <;> simp only <;> omega) (fun x hx => by simp only [List.mem_cons, List.not_mem_nil, or_false] at hx; rcases hx with rfl | rfl <;> simp only [fnO, stO] <;> omega)
        have hc := Funcs_any w19 h want (S20.fn (a := lh) (b := hh) (.tail _ (.head _))) (HO9.out _ (S20.own (stO lw hw w8) (.head _)).1)
        rw [HHC.out, HWC.out] at hc
        have ih0 := S20.get (b := bh) (.tail _ (.tail _ (.head _))) 0 _ rfl
        have ih1 := S20.get (b := bh) (.tail _ (.tail _ (.head _))) 1 _ rfl
        have ih2 := S20.get (b := bh) (.tail _ (.tail _ (.head _))) 2 _ rfl
        have ih3 := S20.get (b := bh) (.tail _ (.tail _ (.head _))) 3 _ rfl
        have iw0 := S20.get (b := bw) (.head _) 0 _ rfl
        have iw1 := S20.get (b := bw) (.head _) 1 _ rfl
        have iw2 := S20.get (b := bw) (.head _) 2 _ rfl
        have iw3 := S20.get (b := bw) (.head _) 3 _ rfl
        have HS20 := Lib.hid S20
        clear S20 ho19 jm0 jm1 jm2 jm3
        go_wp2_with fail
        refine hc.mono ?_
        clear hc
        rintro e w20 ⟨b, rfl, hb, hb20⟩
        obtain rfl := hb.2 (HDH.out.trans HDW.out.symm)
        clear hb
        go_wp2_with fail
        go_ret
        exact ⟨rfl, (HS20.out.later hb20).past.2⟩
end Go.Proofs.Ytdfdgpobohpphaa
