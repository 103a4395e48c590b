/- The law IrSums: its walk. -/
import Derived.Test.YtpfeiolmkbibiaaOwnJ
import Derived.Maps.OwnOps
namespace Go.Proofs.Ytpfeiolmkbibiaa
open Go.RowKit Go.Maps
set_option linter.unusedVariables false
set_option linter.unusedSimpArgs false

/-- The map seen holds 1 at just the numbers of P. -/
def Seen (D : DataW Unit) (P : List Int) : Prop := ∀ x : Int, D.atKey (.int .i64 x) (.lit (.int .i64 0)) = .lit (.int .i64 (if P.contains x then 1 else 0))
theorem seen_nil : Seen (.map []) [] := fun x => rfl
theorem seen_put {D : DataW Unit} {P : List Int} (h : Seen D P) (hm : IsMap D) (n : Int) : Seen (D.put (.int .i64 n) (.lit (.int .i64 1))) (P ++ [n]) := fun x => by
  by_cases hx : x = n
  · subst hx
    rw [atKey_put_same (k := .int .i64 x) hm trivial]
    simp
  · rw [atKey_put_other (by intro e; injection e with _ e; exact hx e), h x]
    have : (P ++ [n]).contains x = P.contains x := by
      rw [Bool.eq_iff_iff]
      simp [hx]
    rw [this]
theorem seen_old {D : DataW Unit} {P : List Int} (h : Seen D P) (n : Int) (hc : P.contains n = true) : Seen D (P ++ [n]) := fun x => by
  rw [h x]
  have hm : n ∈ P := by simpa using hc
  have : (P ++ [n]).contains x = P.contains x := by
    rw [Bool.eq_iff_iff]
    simp only [List.contains_iff_mem, List.mem_append, List.mem_singleton]
    exact ⟨fun hx => hx.elim id (fun e => by rw [e]; exact hm), fun hx => Or.inl hx⟩
  rw [this]
/-- What the loops keep: P are the registers met. -/
def SumI (W : World) (cs : List Value) (m : Nat) (ns P : List Int) (A S : Value) (w : World) : Prop :=
  A = .int .i64 (P.length : Nat) ∧ S = .int .i64 (cntIn ns P : Nat) ∧ Past W.heap.size W w ∧ Box W.heap.size cs w ∧ W.heap.size < m ∧ ∃ D, w.ownsMap Try.prog 3 (plainElem Try.prog 3) m P.length D ∧ Seen D P
theorem SumI.alloc {W : World} {cs : List Value} {m : Nat} {ns P : List Int} {A S : Value} {w : World} (h : SumI W cs m ns P A S w) (c : Array Value) (t : TypeId) : SumI W cs m ns P A S (w.alloc (.cells c t)) := by
  obtain ⟨h1, h2, h3, h4, h5, D, h6, h7⟩ := h
  exact ⟨h1, h2, h3.alloc _, h4.alloc _, h5, D, h6.alloc _, h7⟩
theorem SumI.later {W : World} {cs : List Value} {m : Nat} {ns P : List Int} {A S : Value} {w w' : World} (h : SumI W cs m ns P A S w) (hb : Below w.heap.size w w') : SumI W cs m ns P A S w' := by
  obtain ⟨h1, h2, h3, h4, h5, D, h6, h7⟩ := h
  exact ⟨h1, h2, h3.trans ⟨h3.size, hb.mono h3.size⟩, h4.later hb, h5, D, h6.kept (row := none) ⟨hb.os, hb.tape, hb.output, hb.size, fun k hk _ => hb.block k hk⟩ (by simp), h7⟩

set_option maxRecDepth 100000 in
set_option maxHeartbeats 4000000 in
/-- The three loops' innermost: one instruction's operands. -/
theorem zeroI (w : World) : (zeroValue 3).run Try.prog w = .ok (.int .i64 0) w := by kernel_rfl
theorem trodI (n : Nat) (h : n < 4611686018427387904) : (Lit.int .i64 (n : Int)).wf = true := by simp [Lit.wf, IntKind.min, IntKind.max, IntKind.signed, IntKind.bits]; omega
theorem ahead_nsI (l : List (List Ins)) (b k : Nat) (hb : b < l.length) (hk : k < l[b].length) : ∃ R, nsI l.flatten = nsI (ahead l b k) ++ (nmA l[b][k].args ++ R) := by
  obtain ⟨m, hm⟩ := ahead_split l b k hb hk
  refine ⟨nsI m, ?_⟩
  rw [hm, nsI_app, nsI_app]
  congr 2
  simp [nsI]
theorem nmA_split (l : List Arg) (j : Nat) (hj : j < l.length) : ∃ R, nmA l = nmA (l.take j) ++ ((if l[j].kind == 1 then [l[j].n] else []) ++ R) := by
  refine ⟨nmA (l.drop (j + 1)), ?_⟩
  have e : l = l.take j ++ ([l[j]] ++ l.drop (j + 1)) := by rw [List.singleton_append, List.getElem_cons_drop, List.take_append_drop]
  have h1 : ∀ a b, nmA (a ++ b) = nmA a ++ nmA b := fun a b => by unfold nmA; rw [List.filter_append, List.map_append]
  have h2 : nmA [l[j]] = if l[j].kind == 1 then [l[j].n] else [] := by
    unfold nmA
    cases h : l[j].kind == 1 <;> simp [h]
  calc nmA l = nmA (l.take j ++ ([l[j]] ++ l.drop (j + 1))) := by rw [← e]
    _ = _ := by rw [h1, h1, h2]

set_option maxRecDepth 100000 in
set_option maxHeartbeats 4000000 in
theorem irSums_walk (W : World) (f : LFn) (reg other : Int) (h : FnIn W.heap.size W f) (hw : FnWf f) (hz : fnZ (fnD f) ≤ 1048576) :
    Calls Try.prog 9 #[.agg (fnC f).toArray, .int .i64 reg, .int .i64 other] W fun e w' => e = .returned (.bool true) ∧ Below W.heap.size W w' := by
  have cl := lives_any
  have hmm := @run_makeMap Try.prog
  obtain ⟨nm, pp, pn, pc, ps, rt, bp, bn, bc, bs⟩ := f
  obtain rfl : bn = bs.length := h.2.1
  obtain rfl : pn = ps.length := h.1.1
  show Calls Try.prog 9 #[.agg #[.string nm, .slice pp ps.length pc, .int .i64 rt, .slice bp bs.length bc], .int .i64 reg, .int .i64 other] W _
  have hP : Past W.heap.size W (W.alloc (.cells #[.string nm, .slice pp ps.length pc, .int .i64 rt, .slice bp bs.length bc] 41)) := (Past.refl (Nat.le_refl _)).alloc _
  have F0 : Box W.heap.size [.string nm, .slice pp ps.length pc, .int .i64 rt, .slice bp bs.length bc] (W.alloc (.cells #[.string nm, .slice pp ps.length pc, .int .i64 rt, .slice bp bs.length bc] 41)) := Box.new W rfl _ _
  have HH := Lib.hid h
  have HW := Lib.hid hw
  have HZ := Lib.hid hz
  clear h hw hz
  go_enter Try.func9, Try.ntmps9
  go_wp2_with fail
  refine (cl _).mono ?_
  rintro e w1 ⟨rfl, hb1⟩
  have P1 := hP.trans ⟨hP.size, hb1.mono hP.size⟩
  have F1 := F0.later hb1
  clear hP F0 hb1 cl
  have y0 := F1.get 0 _ rfl
  have y1 := F1.get 1 _ rfl
  have y2 := F1.get 2 _ rfl
  have y3 := F1.get 3 _ rfl
  go_wp2_with fail
  have P2 := P1.alloc (.cells #[.string nm, .slice pp ps.length pc, .int .i64 rt, .slice bp bs.length bc] 41)
  have F2 := F1.alloc (.cells #[.string nm, .slice pp ps.length pc, .int .i64 rt, .slice bp bs.length bc] 41)
  have hcl := cnt_located ⟨nm, pp, ps.length, pc, ps, rt, bp, bs.length, bc, bs⟩
  simp only at hcl
  have h2 := (past_lasts lasts_Fn HH.out P2).2
  refine (Few_1500 _ w1.heap.size nm pp ps.length pc rt bp bs.length bc (located bs) (by simp) (by rw [World.cell?_alloc_at _ _ _ _ rfl]; rfl) (by rw [World.cell?_alloc_at _ _ _ _ rfl]; rfl) (by rw [World.cell?_alloc_at _ _ _ _ rfl]; rfl) (by rw [World.cell?_alloc_at _ _ _ _ rfl]; rfl) (blocksAt_in h2) (by have := HZ.out; omega)).mono ?_
  rintro e w2 ⟨bf, rfl, hb2⟩
  have P3 := P2.trans ⟨P2.size, hb2.mono P2.size⟩
  have F3 := F2.later hb2
  clear y0 y1 y2 y3 F1 F2 P1 P2 hb2 h2 hcl
  cases bf
  · go_wp2
    go_ret
    exact ⟨rfl, P3.2⟩
  · have hcl := cnt_located ⟨nm, pp, ps.length, pc, ps, rt, bp, bs.length, bc, bs⟩
    have hBA := blocksAt_in HH.out.2
    have hAA := allArgs_in HH.out.2
    have hUS : ∀ r, usesP r (fnD ⟨nm, pp, ps.length, pc, ps, rt, bp, bs.length, bc, bs⟩) = (nsI (located bs).flatten).count r := fun r => by rw [← usesOf_located, usesOf_count]
    have hWF : ∀ b (hb : b < (located bs).length) k (hk : k < (located bs)[b].length) j (hj : j < (located bs)[b][k].args.length), wfI (located bs)[b][k].args[j].n := fun b hb k hk j hj => by
      have hb' : b < bs.length := by simpa [located] using hb
      have e1 : (located bs)[b] = bs[b].code.map Prod.fst := by simp [located]
      have hk' : k < bs[b].code.length := by simpa [located] using hk
      have e2 : (located bs)[b][k] = bs[b].code[k].1 := by simp [located]
      have h1 := (HW.out bs[b] (List.getElem_mem hb') bs[b].code[k] (List.getElem_mem hk')).2
      exact h1 _ (by rw [← e2]; exact List.getElem_mem _)
    have hle := nsI_le (located bs).flatten
    have hNS : (nsI (located bs).flatten).length ≤ 1048576 := by have := HZ.out; unfold cnt at hcl; simp only at hcl; omega
    obtain ⟨p, cap, he, hc1, hc2, hbl⟩ := hBA
    injection he with he1 he2 he3
    simp only at he1 he2 he3 hAA
    subst he1 he3
    obtain ⟨l, HLL, hc1, hc2, HU, HWF, HN, HAA, HBL⟩ : ∃ l : List (List Ins), Hid (l.length = bs.length) ∧ bs.length ≤ bc ∧ bc ≤ maxLen ∧ Hid (∀ r, usesP r (fnD ⟨nm, pp, ps.length, pc, ps, rt, bp, bs.length, bc, bs⟩) = (nsI l.flatten).count r) ∧ Hid (∀ b (hb : b < l.length) k (hk : k < l[b].length) j (hj : j < l[b][k].args.length), wfI l[b][k].args[j].n) ∧ Hid ((nsI l.flatten).length ≤ 1048576) ∧ Hid (AllArgs W.heap.size W l) ∧
        Hid (∀ i (h : i < l.length), ∃ a v, bp = some a ∧ a.block < W.heap.size ∧ W.cell? (a.add i) = some v ∧ CodeAt W.heap.size W v l[i])   := ⟨located bs, he2.symm, by rw [he2]; exact hc1, hc2, hUS, hWF, hNS, hAA, hbl⟩
    clear hcl hUS hWF hle hNS hAA hbl he2
    rename_i hc1' hc2'
    clear hc1' hc2'
    unfold maxLen at hc2
    obtain ⟨f, ef⟩ : ∃ f : LFn, f = ⟨nm, pp, ps.length, pc, ps, rt, bp, bs.length, bc, bs⟩ := ⟨_, rfl⟩
    rw [← ef] at HH HU HZ
    have HEF := Lib.hid ef
    clear ef HW
    have HFC : Hid (fnC f = [.string nm, .slice pp ps.length pc, .int .i64 rt, .slice bp bs.length bc]) := Lib.hid (by rw [HEF.out]; rfl)
    clear HEF
    have y0 := F3.get 0 _ rfl
    have y1 := F3.get 1 _ rfl
    have y2 := F3.get 2 _ rfl
    have y3 := F3.get 3 _ rfl
    have hm1 : W.heap.size < w2.heap.size := F3.1
    go_wp2_with fail
    obtain ⟨ns, ens⟩ : ∃ ns, nsI l.flatten = ns := ⟨_, rfl⟩
    have HNS := Lib.hid ens
    rw [ens] at HU HN
    clear ens
    have inv0 : SumI W [.string nm, .slice pp ps.length pc, .int .i64 rt, .slice bp bs.length bc] w2.heap.size ns (nsI (ahead l 0 0)) (.int .i64 0) (.int .i64 0) (w2.alloc (.map #[] 0)) := by
      rw [ahead_0]
      exact ⟨rfl, by rw [show nsI [] = [] from rfl, cntIn_nil]; rfl, P3.alloc _, F3.later ((Below.refl _ _).alloc (Nat.le_refl _) _), hm1, .map [], World.ownsMap_made _ _ _ _, seen_nil⟩
    obtain ⟨m, em⟩ : ∃ m, w2.heap.size = m := ⟨_, rfl⟩
    rw [em] at inv0
    simp only [em]
    have INV := Lib.hid inv0
    clear inv0 y0 y1 y2 y3 F3 P3 hm1
    generalize w2.alloc (.map #[] 0) = w3 at *
    clear em
    go_loopw [7, 9, 28] (fun A S t wr => ∃ b : Nat, b ≤ bs.length ∧ t = .int .i64 b ∧ SumI W [.string nm, .slice pp ps.length pc, .int .i64 rt, .slice bp bs.length bc] m ns (nsI (ahead l b 0)) A S wr) (fun _ _ t _ => bs.length - (intOf t).toNat)
    case atStart => exact ⟨0, Nat.zero_le _, rfl, INV.out⟩
    case round =>
      obtain ⟨b, hb, rfl, hI⟩ := hrel
      obtain ⟨eA, eS, hP, hF, hm, hD⟩ := id hI
      by_cases hlt' : b < bs.length
      · have hlt : b < l.length := by rw [HLL.out]; exact hlt'
        obtain ⟨a, x, rfl, hab, hcell, hcode⟩ := HBL.out b hlt
        obtain ⟨q2, cap2, rfl, hd1, hd2, hcd⟩ := hcode
        unfold maxLen at hd2
        have k1 : wr.cell? (a.add b) = some (.slice q2 l[b].length cap2) := (hP.2.cell (p := a.add b) (by rw [add_block]; exact hab)).trans hcell
        have HCD := Lib.hid hcd
        have HI := Lib.hid hI
        subst eA eS
        clear hcd hcell hI hP hF hD
        go_wp2_with fail
        have I1 := HI.out.alloc #[.slice q2 l[b].length cap2] 67
        generalize wr.alloc (.cells #[.slice q2 l[b].length cap2] 67) = wr1 at *
        have II := Lib.hid I1
        clear I1 HI k1
        go_loopw [7, 9, 35] (fun A S t wi => ∃ k : Nat, k ≤ l[b].length ∧ t = .int .i64 k ∧ SumI W [.string nm, .slice pp ps.length pc, .int .i64 rt, .slice (some a) bs.length bc] m ns (nsI (ahead l b k)) A S wi) (fun _ _ t _ => l[b].length - (intOf t).toNat)
        case atStart => exact ⟨0, Nat.zero_le _, rfl, II.out⟩
        case round =>
          obtain ⟨k, hk, rfl, hJ⟩ := hrel
          obtain ⟨eA, eS, hP, hF, hm, hD⟩ := id hJ
          by_cases hkl : k < l[b].length
          · obtain ⟨a2, rfl, ha2, hins⟩ := HCD.out k hkl
            obtain ⟨z0, z1, z2, z3, z4, z5, z6⟩ := hins.below hP.2 (by rw [add_block]; exact ha2)
            obtain ⟨hal, hac, hmx, hargs⟩ := HAA.out b hlt k hkl
            unfold maxLen at hmx
            rw [hal] at z5 hac
            have HARG := Lib.hid hargs
            have HJ := Lib.hid hJ
            have HAL := Lib.hid hal
            have hAl := HN.out
            have hfit : (nsI (ahead l b k)).length ≤ ns.length := by
              obtain ⟨R, hR⟩ := ahead_nsI l b k hlt hkl
              rw [HNS.out] at hR
              rw [hR, List.length_append]
              omega
            have HFIT := Lib.hid hfit
            subst eA eS
            clear hins hargs hal hJ hP hF hD hAl hfit
            go_wp2_with fail
            have J1 := HJ.out.alloc #[.int .i64 l[b][k].op, .int .i64 l[b][k].reg, .int .i64 l[b][k].ty, .int .i64 l[b][k].n, .int .i64 l[b][k].fl, .slice l[b][k].ap l[b][k].args.length l[b][k].ac, .slice l[b][k].tp l[b][k].tl l[b][k].tc] 25
            generalize wr.alloc (.cells #[.int .i64 l[b][k].op, .int .i64 l[b][k].reg, .int .i64 l[b][k].ty, .int .i64 l[b][k].n, .int .i64 l[b][k].fl, .slice l[b][k].ap l[b][k].args.length l[b][k].ac, .slice l[b][k].tp l[b][k].tl l[b][k].tc] 25) = wr2 at *
            have JJ := Lib.hid J1
            clear J1 HJ z0 z1 z2 z3 z4 z5 z6
            go_loopw [7, 9, 42] (fun A S t wi => ∃ j : Nat, j ≤ l[b][k].args.length ∧ t = .int .i64 j ∧ SumI W [.string nm, .slice pp ps.length pc, .int .i64 rt, .slice (some a) bs.length bc] m ns (nsI (ahead l b k) ++ nmA (l[b][k].args.take j)) A S wi) (fun _ _ t _ => l[b][k].args.length - (intOf t).toNat)
            case atStart => exact ⟨0, Nat.zero_le _, rfl, by rw [List.take_zero, show nmA [] = [] from rfl, List.append_nil]; exact JJ.out⟩
            case round =>
              obtain ⟨j, hj, rfl, hL⟩ := hrel
              obtain ⟨eA, eS, hP, hF, hm, D, hown, hseen⟩ := id hL
              by_cases hjl : j < l[b][k].args.length
              · obtain ⟨a3, hap, ha3, hat⟩ := HARG.out j hjl
                rw [hap]
                obtain ⟨f0, f1, f2⟩ := hat.below hP.2 (by rw [add_block]; exact ha3)
                have hsp := nmA_succ l[b][k].args j hjl
                have hfit : (nsI (ahead l b k) ++ nmA (l[b][k].args.take j)).length + (if l[b][k].args[j].kind == 1 then 1 else 0) ≤ ns.length := by
                  obtain ⟨R, hR⟩ := ahead_nsI l b k hlt hkl
                  obtain ⟨R2, hR2⟩ := nmA_split l[b][k].args j hjl
                  rw [HNS.out, hR2] at hR
                  rw [hR]
                  simp only [List.length_append]
                  split <;> simp <;> omega
                have hcle := cntIn_le ns (nsI (ahead l b k) ++ nmA (l[b][k].args.take j))
                have hwf := HWF.out b hlt k hkl j hjl
                obtain ⟨P, eP⟩ : ∃ P, nsI (ahead l b k) ++ nmA (l[b][k].args.take j) = P := ⟨_, rfl⟩
                rw [eP] at hL eA eS hown hseen hfit hcle
                have hnext : nsI (ahead l b k) ++ nmA (l[b][k].args.take (j + 1)) = P ++ (if l[b][k].args[j].kind == 1 then [l[b][k].args[j].n] else []) := by rw [hsp, ← List.append_assoc, eP]
                have HNX := Lib.hid hnext
                have HL := Lib.hid hL
                have hPn : P.length ≤ 1048576 := by have := HN.out; omega
                have hSn : cntIn ns P ≤ 1048576 := by have := HN.out; omega
                subst eA eS
                clear hat hsp hL eP hnext
                by_cases hK : l[b][k].args[j].kind = 1
                · have hK2 : (l[b][k].args[j].kind == 1) = true := by simpa using hK
                  rw [hK2, if_pos rfl] at hfit
                  have HK2 := Lib.hid hK2
                  have hkey := keyOf_int_mk Try.underlying3 hwf
                  have hVa := hF.alloc (.cells #[.int .i64 1, .int .i64 l[b][k].args[j].n, .int .u64 l[b][k].args[j].bits] 55)
                  have hPa := hP.alloc (.cells #[.int .i64 1, .int .i64 l[b][k].args[j].n, .int .u64 l[b][k].args[j].bits] 55)
                  have M1 : Hid (P.length < maxLen) := Lib.hid (by unfold maxLen; omega)
                  have hmlt := hown.lt
                  cases hc : P.contains l[b][k].args[j].n
                  · have hcn := cntIn_new ns P _ hc
                    have hle2 := cntIn_le ns (P ++ [l[b][k].args[j].n])
                    rw [hcn] at hle2
                    have hcz : ∀ c : Int, D.atKey (.int .i64 l[b][k].args[j].n) (.lit (.int .i64 0)) = .lit (.int .i64 c) → c = 0 := fun c e => by
                      have h := hseen l[b][k].args[j].n
                      rw [hc, e] at h
                      simpa using h
                    have HCZ := Lib.hid hcz
                    have HCN := Lib.hid hcn
                    have HSEEN := Lib.hid hseen
                    have hcnt : ns.count l[b][k].args[j].n ≤ 1048576 := by have := HN.out; omega
                    clear hwf hcz hcn hseen hc hfit hcle
                    go_wp2_with (first
                      | (at_lookup; refine wpList_lookup_own_int _ rfl _ _ 65 rfl 3 3 .i64 lawK Try.underlying65 Try.underlying3 (zeroI _) m P.length D rfl (hown.alloc _) _ _ rfl hkey ?_; intro c hat hwc; obtain rfl := HCZ.out c hat; clear hat hwc)
                      | (at_mapUpdate; refine wpList_mapUpdate_own _ rfl _ _ _ 65 rfl 3 3 lawK Try.underlying65 (plainElem (H := Unit) Try.prog 3) m P.length _ rfl (hown.alloc _) M1.out _ _ _ rfl rfl hkey (.lit (.int .i64 1)) [] (plainElem_int Try.underlying3 (by decide)) ?_; intro w5 hown5 hgrow5; have hF5 := hVa.kept hgrow5 (by simp; omega); have g0 := hF5.get 0 _ rfl; have g1 := hF5.get 1 _ rfl; have g2 := hF5.get 2 _ rfl; have g3 := hF5.get 3 _ rfl; have gv := grown_cell hgrow5 (c := wr.heap.size) (o := 1) (by simp) (by omega)))
                    have P5 := hPa.grownRow hgrow5 (fun g e => by cases e; omega)
                    have hfn : FnIn w5.heap.size w5 f := past_lasts lasts_Fn HH.out P5
                    have hcu := uses_in l[b][k].args[j].n hfn HZ.out
                    rw [HFC.out, HU.out] at hcu
                    refine hcu.mono ?_
                    rintro e w6 ⟨rfl, hb6⟩
                    have hown6 := hown5.kept (row := none) (w' := w6) ⟨hb6.os, hb6.tape, hb6.output, hb6.size, fun k hk _ => hb6.block k hk⟩ (by simp)
                    have P6 := P5.trans ⟨P5.size, hb6.mono P5.size⟩
                    have F6 := hF5.later hb6
                    have hs2 : Seen (D.put (.int .i64 l[b][k].args[j].n) (.lit (.int .i64 1))) (P ++ [l[b][k].args[j].n]) := seen_put HSEEN.out hown.isMap _
                    clear hcu hfn g0 g1 g2 g3 gv hgrow5
                    go_wp2_with fail
                    refine ⟨⟨j + 1, by omega, by go_num, ?_⟩, by simp [intOf]; omega⟩
                    rw [HNX.out, HK2.out, if_pos rfl]
                    exact ⟨by rw [List.length_append]; simp, by rw [HCN.out]; simp, P6, F6, hm, _, by rw [List.length_append]; exact hown6, hs2⟩
                  · have hcn := cntIn_old ns P _ hc
                    have hcz : ∀ c : Int, D.atKey (.int .i64 l[b][k].args[j].n) (.lit (.int .i64 0)) = .lit (.int .i64 c) → c = 1 := fun c e => by
                      have h := hseen l[b][k].args[j].n
                      rw [hc, e] at h
                      simpa using h
                    have HCZ := Lib.hid hcz
                    have HCN := Lib.hid hcn
                    have hs2 := seen_old hseen l[b][k].args[j].n hc
                    have HS2 := Lib.hid hs2
                    clear hwf hcz hcn hseen hc hfit hcle hs2
                    go_wp2_with (first
                      | (at_lookup; refine wpList_lookup_own_int _ rfl _ _ 65 rfl 3 3 .i64 lawK Try.underlying65 Try.underlying3 (zeroI _) m P.length D rfl (hown.alloc _) _ _ rfl hkey ?_; intro c hat hwc; obtain rfl := HCZ.out c hat; clear hat hwc))
                    refine ⟨⟨j + 1, by omega, by go_num, ?_⟩, by simp [intOf]; omega⟩
                    rw [HNX.out, HK2.out, if_pos rfl]
                    exact ⟨by rw [List.length_append]; simp, by rw [HCN.out], hPa, hVa, hm, D, by rw [List.length_append]; exact (hown.alloc _).mono (by simp), HS2.out⟩
                · have hK2 : (l[b][k].args[j].kind == 1) = false := by simpa using hK
                  have HK2 := Lib.hid hK2
                  clear hfit hcle hwf hseen hK2 hP hF
                  go_wp2_with fail
                  refine ⟨⟨j + 1, by omega, by go_num, ?_⟩, by simp [intOf]; omega⟩
                  rw [HNX.out, HK2.out]
                  simpa using HL.out.alloc _ _
              · obtain rfl : j = l[b][k].args.length := by omega
                rw [List.take_length] at hL
                subst eA eS
                have HL := Lib.hid hL
                clear hL hP hF hown hseen
                go_wp2_with fail
                refine ⟨⟨k + 1, by omega, by go_num, ?_⟩, by simp [intOf]; omega⟩
                rw [ahead_succ l b k hlt hkl, nsI_app, show nsI [l[b][k]] = nmA l[b][k].args by simp [nsI]]
                exact HL.out
          · obtain rfl : k = l[b].length := by omega
            subst eA eS
            clear hP hF hD
            go_wp2_with fail
            refine ⟨⟨b + 1, by omega, by go_num, ?_⟩, by simp [intOf]; omega⟩
            rw [ahead_next l b hlt]
            exact hJ
      · obtain rfl : b = bs.length := by omega
        have hl2 := HLL.out
        rw [show ahead l bs.length 0 = l.flatten by rw [← hl2, ahead_all], HNS.out] at hI eA eS
        rw [cntIn_all] at eS
        subst eA eS
        have HI := Lib.hid hI
        clear hI hD hl2
        have y0 := hF.get 0 _ rfl
        have y1 := hF.get 1 _ rfl
        have y2 := hF.get 2 _ rfl
        have y3 := hF.get 3 _ rfl
        by_cases hro : reg = other
        · have hro2 : (reg == other) = true := by simpa using hro
          clear hro
          go_wp2_with fail
          go_ret
          exact ⟨rfl, hP.2⟩
        · have hro2 : (reg == other) = false := by simpa using hro
          have hro3 := Lib.hid hro
          clear hro
          go_wp2_with fail
          have hfn : FnIn wr.heap.size wr f := past_lasts lasts_Fn HH.out hP
          have hcr := Replace_own f reg ⟨1, other, 0⟩ wr hfn HZ.out
          rw [HFC.out] at hcr
          refine hcr.mono ?_
          rintro e w5 ⟨y, he5, hdy, hp5, hoy⟩
          have hyn := hoy.lies (Nat.le_refl _)
          obtain ⟨nm', pp', pn', pc', ps', rt', bp', bn', bc', bs'⟩ := y
          obtain rfl : e = .returned (.agg #[.string nm', .slice pp' pn' pc', .int .i64 rt', .slice bp' bn' bc']) := he5
          obtain ⟨y, ey⟩ : ∃ y : LFn, y = ⟨nm', pp', pn', pc', ps', rt', bp', bn', bc', bs'⟩ := ⟨_, rfl⟩
          rw [← ey] at hdy hyn
          have HYC : Hid (fnC y = [.string nm', .slice pp' pn' pc', .int .i64 rt', .slice bp' bn' bc']) := Lib.hid (by rw [ey]; rfl)
          clear ey hoy hcr y0 y1 y2 y3
          have P5 := hP.trans ⟨hP.size, hp5.2.mono hP.size⟩
          have F5 := hF.later hp5.2
          have P6 := P5.alloc (.cells #[.string nm', .slice pp' pn' pc', .int .i64 rt', .slice bp' bn' bc'] 41)
          have F6 := F5.alloc (.cells #[.string nm', .slice pp' pn' pc', .int .i64 rt', .slice bp' bn' bc'] 41)
          have G6 : Box w5.heap.size [.string nm', .slice pp' pn' pc', .int .i64 rt', .slice bp' bn' bc'] (w5.alloc (.cells #[.string nm', .slice pp' pn' pc', .int .i64 rt', .slice bp' bn' bc'] 41)) := Box.new w5 rfl _ _
          have hzy : fnZ (fnD y) ≤ 1048576 := by rw [hdy, fnZ_rep]; exact HZ.out
          have hu1 : usesP other (fnD y) = usesP other (fnD f) + usesP reg (fnD f) := by
            rw [hdy, usesP_rep, if_neg (fun e => hro3.out e.symm), show isU other ⟨1, other, 0⟩ = true by simp [isU], if_pos rfl]
          have hu2 : usesP reg (fnD y) = 0 := by
            rw [hdy, usesP_rep, if_pos rfl, show isU reg ⟨1, other, 0⟩ = false by unfold isU; simpa using fun e => hro3.out e.symm]
            rfl
          have hsz : sizeP (fnD y) = sizeP (fnD f) := by rw [hdy, sizeP_rep]
          have hf6 : FnIn (w5.alloc (.cells #[.string nm', .slice pp' pn' pc', .int .i64 rt', .slice bp' bn' bc'] 41)).heap.size (w5.alloc (.cells #[.string nm', .slice pp' pn' pc', .int .i64 rt', .slice bp' bn' bc'] 41)) f := past_lasts lasts_Fn HH.out P6
          have hy6 : FnIn (w5.alloc (.cells #[.string nm', .slice pp' pn' pc', .int .i64 rt', .slice bp' bn' bc'] 41)).heap.size (w5.alloc (.cells #[.string nm', .slice pp' pn' pc', .int .i64 rt', .slice bp' bn' bc'] 41)) y := past_lasts lasts_Fn hyn ((Past.refl (Nat.le_refl _)).alloc _)
          have q1 : W.heap.size < w5.heap.size := F5.1
          have q2 : W.heap.size < (w5.alloc (.cells #[.string nm', .slice pp' pn' pc', .int .i64 rt', .slice bp' bn' bc'] 41)).heap.size := F6.1
          have q3 : w5.heap.size < (w5.alloc (.cells #[.string nm', .slice pp' pn' pc', .int .i64 rt', .slice bp' bn' bc'] 41)).heap.size := G6.1
          have q4 : Below (w5.alloc (.cells #[.string nm', .slice pp' pn' pc', .int .i64 rt', .slice bp' bn' bc'] 41)).heap.size (w5.alloc (.cells #[.string nm', .slice pp' pn' pc', .int .i64 rt', .slice bp' bn' bc'] 41)) (w5.alloc (.cells #[.string nm', .slice pp' pn' pc', .int .i64 rt', .slice bp' bn' bc'] 41)) := Below.refl _ _
          go_wp2_with fail
          generalize w5.alloc (.cells #[.string nm', .slice pp' pn' pc', .int .i64 rt', .slice bp' bn' bc'] 41) = w6 at *
          have HS : ∀ w w' : World, (w.cell? ⟨W.heap.size, 0, none⟩ = some (.string nm) ∧ w.cell? ⟨W.heap.size, 1, none⟩ = some (.slice pp ps.length pc) ∧ w.cell? ⟨W.heap.size, 2, none⟩ = some (.int .i64 rt) ∧ w.cell? ⟨W.heap.size, 3, none⟩ = some (.slice bp bs.length bc) ∧ w.cell? ⟨w5.heap.size, 0, none⟩ = some (.string nm') ∧ w.cell? ⟨w5.heap.size, 1, none⟩ = some (.slice pp' pn' pc') ∧ w.cell? ⟨w5.heap.size, 2, none⟩ = some (.int .i64 rt') ∧ w.cell? ⟨w5.heap.size, 3, none⟩ = some (.slice bp' bn' bc') ∧ W.heap.size < w.heap.size ∧ w5.heap.size < w.heap.size ∧ Below w6.heap.size w6 w) → Below w.heap.size w w' → (w'.cell? ⟨W.heap.size, 0, none⟩ = some (.string nm) ∧ w'.cell? ⟨W.heap.size, 1, none⟩ = some (.slice pp ps.length pc) ∧ w'.cell? ⟨W.heap.size, 2, none⟩ = some (.int .i64 rt) ∧ w'.cell? ⟨W.heap.size, 3, none⟩ = some (.slice bp bs.length bc) ∧ w'.cell? ⟨w5.heap.size, 0, none⟩ = some (.string nm') ∧ w'.cell? ⟨w5.heap.size, 1, none⟩ = some (.slice pp' pn' pc') ∧ w'.cell? ⟨w5.heap.size, 2, none⟩ = some (.int .i64 rt') ∧ w'.cell? ⟨w5.heap.size, 3, none⟩ = some (.slice bp' bn' bc') ∧ W.heap.size < w'.heap.size ∧ w5.heap.size < w'.heap.size ∧ Below w6.heap.size w6 w') := by
            rintro w w' ⟨k0, k1, k2, k3, k4, k5, k6, k7, k8, k9, k10⟩ hb
            exact ⟨(hb.cell (p := ⟨W.heap.size, 0, none⟩) k8).trans k0, (hb.cell (p := ⟨W.heap.size, 1, none⟩) k8).trans k1, (hb.cell (p := ⟨W.heap.size, 2, none⟩) k8).trans k2, (hb.cell (p := ⟨W.heap.size, 3, none⟩) k8).trans k3,
              (hb.cell (p := ⟨w5.heap.size, 0, none⟩) k9).trans k4, (hb.cell (p := ⟨w5.heap.size, 1, none⟩) k9).trans k5, (hb.cell (p := ⟨w5.heap.size, 2, none⟩) k9).trans k6, (hb.cell (p := ⟨w5.heap.size, 3, none⟩) k9).trans k7,
              Nat.lt_of_lt_of_le k8 hb.size, Nat.lt_of_lt_of_le k9 hb.size, k10.trans (hb.mono k10.size)⟩
          obtain ⟨A, eA⟩ : ∃ A : Nat, usesP other (fnD f) = A := ⟨_, rfl⟩
          obtain ⟨B, eB⟩ : ∃ B : Nat, usesP reg (fnD f) = B := ⟨_, rfl⟩
          obtain ⟨Z, eZ⟩ : ∃ Z : Nat, sizeP (fnD f) = Z := ⟨_, rfl⟩
          have hA : A ≤ 1048576 := by have h1 := HU.out other; rw [eA] at h1; have h2 : ns.count other ≤ ns.length := List.count_le_length; have := HN.out; omega
          have hB : B ≤ 1048576 := by have h1 := HU.out reg; rw [eB] at h1; have h2 : ns.count reg ≤ ns.length := List.count_le_length; have := HN.out; omega
          have hwrap : IntKind.i64.wrap ((A : Int) + (B : Int)) = (A : Int) + (B : Int) := by simp [IntKind.wrap, IntKind.signed, IntKind.bits]; omega
          have c1 : ∀ w, (w.cell? ⟨W.heap.size, 0, none⟩ = some (.string nm) ∧ w.cell? ⟨W.heap.size, 1, none⟩ = some (.slice pp ps.length pc) ∧ w.cell? ⟨W.heap.size, 2, none⟩ = some (.int .i64 rt) ∧ w.cell? ⟨W.heap.size, 3, none⟩ = some (.slice bp bs.length bc) ∧ w.cell? ⟨w5.heap.size, 0, none⟩ = some (.string nm') ∧ w.cell? ⟨w5.heap.size, 1, none⟩ = some (.slice pp' pn' pc') ∧ w.cell? ⟨w5.heap.size, 2, none⟩ = some (.int .i64 rt') ∧ w.cell? ⟨w5.heap.size, 3, none⟩ = some (.slice bp' bn' bc') ∧ W.heap.size < w.heap.size ∧ w5.heap.size < w.heap.size ∧ Below w6.heap.size w6 w) → Calls Try.prog 31 #[.agg #[.string nm', .slice pp' pn' pc', .int .i64 rt', .slice bp' bn' bc'], .int .i64 other] w fun e w' => e = .returned (.int .i64 (IntKind.i64.wrap ((A : Int) + (B : Int)))) ∧ (w'.cell? ⟨W.heap.size, 0, none⟩ = some (.string nm) ∧ w'.cell? ⟨W.heap.size, 1, none⟩ = some (.slice pp ps.length pc) ∧ w'.cell? ⟨W.heap.size, 2, none⟩ = some (.int .i64 rt) ∧ w'.cell? ⟨W.heap.size, 3, none⟩ = some (.slice bp bs.length bc) ∧ w'.cell? ⟨w5.heap.size, 0, none⟩ = some (.string nm') ∧ w'.cell? ⟨w5.heap.size, 1, none⟩ = some (.slice pp' pn' pc') ∧ w'.cell? ⟨w5.heap.size, 2, none⟩ = some (.int .i64 rt') ∧ w'.cell? ⟨w5.heap.size, 3, none⟩ = some (.slice bp' bn' bc') ∧ W.heap.size < w'.heap.size ∧ w5.heap.size < w'.heap.size ∧ Below w6.heap.size w6 w') := fun w hs => by
            have h := uses_in (f := y) other (w := w) (lasts_Fn _ _ _ _ _ hs.2.2.2.2.2.2.2.2.2.2 hs.2.2.2.2.2.2.2.2.2.2.size hy6) hzy
            rw [HYC.out, hu1, eA, eB, Int.natCast_add, ← hwrap] at h
            exact h.mono fun e w' ⟨he, hb⟩ => ⟨he, HS w w' hs hb⟩
          have c2 : ∀ w, (w.cell? ⟨W.heap.size, 0, none⟩ = some (.string nm) ∧ w.cell? ⟨W.heap.size, 1, none⟩ = some (.slice pp ps.length pc) ∧ w.cell? ⟨W.heap.size, 2, none⟩ = some (.int .i64 rt) ∧ w.cell? ⟨W.heap.size, 3, none⟩ = some (.slice bp bs.length bc) ∧ w.cell? ⟨w5.heap.size, 0, none⟩ = some (.string nm') ∧ w.cell? ⟨w5.heap.size, 1, none⟩ = some (.slice pp' pn' pc') ∧ w.cell? ⟨w5.heap.size, 2, none⟩ = some (.int .i64 rt') ∧ w.cell? ⟨w5.heap.size, 3, none⟩ = some (.slice bp' bn' bc') ∧ W.heap.size < w.heap.size ∧ w5.heap.size < w.heap.size ∧ Below w6.heap.size w6 w) → Calls Try.prog 31 #[.agg #[.string nm, .slice pp ps.length pc, .int .i64 rt, .slice bp bs.length bc], .int .i64 other] w fun e w' => e = .returned (.int .i64 (A : Int)) ∧ (w'.cell? ⟨W.heap.size, 0, none⟩ = some (.string nm) ∧ w'.cell? ⟨W.heap.size, 1, none⟩ = some (.slice pp ps.length pc) ∧ w'.cell? ⟨W.heap.size, 2, none⟩ = some (.int .i64 rt) ∧ w'.cell? ⟨W.heap.size, 3, none⟩ = some (.slice bp bs.length bc) ∧ w'.cell? ⟨w5.heap.size, 0, none⟩ = some (.string nm') ∧ w'.cell? ⟨w5.heap.size, 1, none⟩ = some (.slice pp' pn' pc') ∧ w'.cell? ⟨w5.heap.size, 2, none⟩ = some (.int .i64 rt') ∧ w'.cell? ⟨w5.heap.size, 3, none⟩ = some (.slice bp' bn' bc') ∧ W.heap.size < w'.heap.size ∧ w5.heap.size < w'.heap.size ∧ Below w6.heap.size w6 w') := fun w hs => by
            have h := uses_in (f := f) other (w := w) (lasts_Fn _ _ _ _ _ hs.2.2.2.2.2.2.2.2.2.2 hs.2.2.2.2.2.2.2.2.2.2.size hf6) HZ.out
            rw [HFC.out, eA] at h
            exact h.mono fun e w' ⟨he, hb⟩ => ⟨he, HS w w' hs hb⟩
          have c3 : ∀ w, (w.cell? ⟨W.heap.size, 0, none⟩ = some (.string nm) ∧ w.cell? ⟨W.heap.size, 1, none⟩ = some (.slice pp ps.length pc) ∧ w.cell? ⟨W.heap.size, 2, none⟩ = some (.int .i64 rt) ∧ w.cell? ⟨W.heap.size, 3, none⟩ = some (.slice bp bs.length bc) ∧ w.cell? ⟨w5.heap.size, 0, none⟩ = some (.string nm') ∧ w.cell? ⟨w5.heap.size, 1, none⟩ = some (.slice pp' pn' pc') ∧ w.cell? ⟨w5.heap.size, 2, none⟩ = some (.int .i64 rt') ∧ w.cell? ⟨w5.heap.size, 3, none⟩ = some (.slice bp' bn' bc') ∧ W.heap.size < w.heap.size ∧ w5.heap.size < w.heap.size ∧ Below w6.heap.size w6 w) → Calls Try.prog 31 #[.agg #[.string nm, .slice pp ps.length pc, .int .i64 rt, .slice bp bs.length bc], .int .i64 reg] w fun e w' => e = .returned (.int .i64 (B : Int)) ∧ (w'.cell? ⟨W.heap.size, 0, none⟩ = some (.string nm) ∧ w'.cell? ⟨W.heap.size, 1, none⟩ = some (.slice pp ps.length pc) ∧ w'.cell? ⟨W.heap.size, 2, none⟩ = some (.int .i64 rt) ∧ w'.cell? ⟨W.heap.size, 3, none⟩ = some (.slice bp bs.length bc) ∧ w'.cell? ⟨w5.heap.size, 0, none⟩ = some (.string nm') ∧ w'.cell? ⟨w5.heap.size, 1, none⟩ = some (.slice pp' pn' pc') ∧ w'.cell? ⟨w5.heap.size, 2, none⟩ = some (.int .i64 rt') ∧ w'.cell? ⟨w5.heap.size, 3, none⟩ = some (.slice bp' bn' bc') ∧ W.heap.size < w'.heap.size ∧ w5.heap.size < w'.heap.size ∧ Below w6.heap.size w6 w') := fun w hs => by
            have h := uses_in (f := f) reg (w := w) (lasts_Fn _ _ _ _ _ hs.2.2.2.2.2.2.2.2.2.2 hs.2.2.2.2.2.2.2.2.2.2.size hf6) HZ.out
            rw [HFC.out, eB] at h
            exact h.mono fun e w' ⟨he, hb⟩ => ⟨he, HS w w' hs hb⟩
          have c4 : ∀ w, (w.cell? ⟨W.heap.size, 0, none⟩ = some (.string nm) ∧ w.cell? ⟨W.heap.size, 1, none⟩ = some (.slice pp ps.length pc) ∧ w.cell? ⟨W.heap.size, 2, none⟩ = some (.int .i64 rt) ∧ w.cell? ⟨W.heap.size, 3, none⟩ = some (.slice bp bs.length bc) ∧ w.cell? ⟨w5.heap.size, 0, none⟩ = some (.string nm') ∧ w.cell? ⟨w5.heap.size, 1, none⟩ = some (.slice pp' pn' pc') ∧ w.cell? ⟨w5.heap.size, 2, none⟩ = some (.int .i64 rt') ∧ w.cell? ⟨w5.heap.size, 3, none⟩ = some (.slice bp' bn' bc') ∧ W.heap.size < w.heap.size ∧ w5.heap.size < w.heap.size ∧ Below w6.heap.size w6 w) → Calls Try.prog 31 #[.agg #[.string nm', .slice pp' pn' pc', .int .i64 rt', .slice bp' bn' bc'], .int .i64 reg] w fun e w' => e = .returned (.int .i64 0) ∧ (w'.cell? ⟨W.heap.size, 0, none⟩ = some (.string nm) ∧ w'.cell? ⟨W.heap.size, 1, none⟩ = some (.slice pp ps.length pc) ∧ w'.cell? ⟨W.heap.size, 2, none⟩ = some (.int .i64 rt) ∧ w'.cell? ⟨W.heap.size, 3, none⟩ = some (.slice bp bs.length bc) ∧ w'.cell? ⟨w5.heap.size, 0, none⟩ = some (.string nm') ∧ w'.cell? ⟨w5.heap.size, 1, none⟩ = some (.slice pp' pn' pc') ∧ w'.cell? ⟨w5.heap.size, 2, none⟩ = some (.int .i64 rt') ∧ w'.cell? ⟨w5.heap.size, 3, none⟩ = some (.slice bp' bn' bc') ∧ W.heap.size < w'.heap.size ∧ w5.heap.size < w'.heap.size ∧ Below w6.heap.size w6 w') := fun w hs => by
            have h := uses_in (f := y) reg (w := w) (lasts_Fn _ _ _ _ _ hs.2.2.2.2.2.2.2.2.2.2 hs.2.2.2.2.2.2.2.2.2.2.size hy6) hzy
            rw [HYC.out, hu2] at h
            exact h.mono fun e w' ⟨he, hb⟩ => ⟨he, HS w w' hs hb⟩
          have c5 : ∀ w, (w.cell? ⟨W.heap.size, 0, none⟩ = some (.string nm) ∧ w.cell? ⟨W.heap.size, 1, none⟩ = some (.slice pp ps.length pc) ∧ w.cell? ⟨W.heap.size, 2, none⟩ = some (.int .i64 rt) ∧ w.cell? ⟨W.heap.size, 3, none⟩ = some (.slice bp bs.length bc) ∧ w.cell? ⟨w5.heap.size, 0, none⟩ = some (.string nm') ∧ w.cell? ⟨w5.heap.size, 1, none⟩ = some (.slice pp' pn' pc') ∧ w.cell? ⟨w5.heap.size, 2, none⟩ = some (.int .i64 rt') ∧ w.cell? ⟨w5.heap.size, 3, none⟩ = some (.slice bp' bn' bc') ∧ W.heap.size < w.heap.size ∧ w5.heap.size < w.heap.size ∧ Below w6.heap.size w6 w) → Calls Try.prog 28 #[.agg #[.string nm', .slice pp' pn' pc', .int .i64 rt', .slice bp' bn' bc']] w fun e w' => e = .returned (.int .i64 (Z : Int)) ∧ (w'.cell? ⟨W.heap.size, 0, none⟩ = some (.string nm) ∧ w'.cell? ⟨W.heap.size, 1, none⟩ = some (.slice pp ps.length pc) ∧ w'.cell? ⟨W.heap.size, 2, none⟩ = some (.int .i64 rt) ∧ w'.cell? ⟨W.heap.size, 3, none⟩ = some (.slice bp bs.length bc) ∧ w'.cell? ⟨w5.heap.size, 0, none⟩ = some (.string nm') ∧ w'.cell? ⟨w5.heap.size, 1, none⟩ = some (.slice pp' pn' pc') ∧ w'.cell? ⟨w5.heap.size, 2, none⟩ = some (.int .i64 rt') ∧ w'.cell? ⟨w5.heap.size, 3, none⟩ = some (.slice bp' bn' bc') ∧ W.heap.size < w'.heap.size ∧ w5.heap.size < w'.heap.size ∧ Below w6.heap.size w6 w') := fun w hs => by
            have h := size_in (f := y) (w := w) (lasts_Fn _ _ _ _ _ hs.2.2.2.2.2.2.2.2.2.2 hs.2.2.2.2.2.2.2.2.2.2.size hy6) hzy
            rw [HYC.out, hsz, eZ] at h
            exact h.mono fun e w' ⟨he, hb⟩ => ⟨he, HS w w' hs hb⟩
          have c6 : ∀ w, (w.cell? ⟨W.heap.size, 0, none⟩ = some (.string nm) ∧ w.cell? ⟨W.heap.size, 1, none⟩ = some (.slice pp ps.length pc) ∧ w.cell? ⟨W.heap.size, 2, none⟩ = some (.int .i64 rt) ∧ w.cell? ⟨W.heap.size, 3, none⟩ = some (.slice bp bs.length bc) ∧ w.cell? ⟨w5.heap.size, 0, none⟩ = some (.string nm') ∧ w.cell? ⟨w5.heap.size, 1, none⟩ = some (.slice pp' pn' pc') ∧ w.cell? ⟨w5.heap.size, 2, none⟩ = some (.int .i64 rt') ∧ w.cell? ⟨w5.heap.size, 3, none⟩ = some (.slice bp' bn' bc') ∧ W.heap.size < w.heap.size ∧ w5.heap.size < w.heap.size ∧ Below w6.heap.size w6 w) → Calls Try.prog 28 #[.agg #[.string nm, .slice pp ps.length pc, .int .i64 rt, .slice bp bs.length bc]] w fun e w' => e = .returned (.int .i64 (Z : Int)) ∧ (w'.cell? ⟨W.heap.size, 0, none⟩ = some (.string nm) ∧ w'.cell? ⟨W.heap.size, 1, none⟩ = some (.slice pp ps.length pc) ∧ w'.cell? ⟨W.heap.size, 2, none⟩ = some (.int .i64 rt) ∧ w'.cell? ⟨W.heap.size, 3, none⟩ = some (.slice bp bs.length bc) ∧ w'.cell? ⟨w5.heap.size, 0, none⟩ = some (.string nm') ∧ w'.cell? ⟨w5.heap.size, 1, none⟩ = some (.slice pp' pn' pc') ∧ w'.cell? ⟨w5.heap.size, 2, none⟩ = some (.int .i64 rt') ∧ w'.cell? ⟨w5.heap.size, 3, none⟩ = some (.slice bp' bn' bc') ∧ W.heap.size < w'.heap.size ∧ w5.heap.size < w'.heap.size ∧ Below w6.heap.size w6 w') := fun w hs => by
            have h := size_in (f := f) (w := w) (lasts_Fn _ _ _ _ _ hs.2.2.2.2.2.2.2.2.2.2 hs.2.2.2.2.2.2.2.2.2.2.size hf6) HZ.out
            rw [HFC.out, eZ] at h
            exact h.mono fun e w' ⟨he, hb⟩ => ⟨he, HS w w' hs hb⟩
          have y0 := F6.get 0 _ rfl
          have y1 := F6.get 1 _ rfl
          have y2 := F6.get 2 _ rfl
          have y3 := F6.get 3 _ rfl
          have x0 := G6.get 0 _ rfl
          have x1 := G6.get 1 _ rfl
          have x2 := G6.get 2 _ rfl
          have x3 := G6.get 3 _ rfl
          have HP6 := Lib.hid P6
          clear hwrap eA eB eZ hu1 hu2 hsz HS hdy hP hF hfn F5 P5 hp5 hyn hzy hf6 hy6 F6 G6 P6 hmm
          go_wp2_with fail
          go_region_held3 (fun w' => w'.cell? ⟨W.heap.size, 0, none⟩ = some (.string nm) ∧ w'.cell? ⟨W.heap.size, 1, none⟩ = some (.slice pp ps.length pc) ∧ w'.cell? ⟨W.heap.size, 2, none⟩ = some (.int .i64 rt) ∧ w'.cell? ⟨W.heap.size, 3, none⟩ = some (.slice bp bs.length bc) ∧ w'.cell? ⟨w5.heap.size, 0, none⟩ = some (.string nm') ∧ w'.cell? ⟨w5.heap.size, 1, none⟩ = some (.slice pp' pn' pc') ∧ w'.cell? ⟨w5.heap.size, 2, none⟩ = some (.int .i64 rt') ∧ w'.cell? ⟨w5.heap.size, 3, none⟩ = some (.slice bp' bn' bc') ∧ W.heap.size < w'.heap.size ∧ w5.heap.size < w'.heap.size ∧ Below w6.heap.size w6 w')
            (((try dsimp only); (repeat' apply And.intro) <;> (first | (with_reducible assumption) | (rw [World.cell?_drew]; with_reducible assumption) | (with_reducible apply below_drew; with_reducible assumption) | (simp <;> omega))))
            (first
              | ((with_reducible refine (c1 _ (by (repeat' apply And.intro) <;> (first | (with_reducible assumption) | (rw [World.cell?_drew]; with_reducible assumption) | (with_reducible apply below_drew; with_reducible assumption) | (simp <;> omega)))).mono ?_); rintro e w' ⟨rfl, k0, k1, k2, k3, k4, k5, k6, k7, k8, k9, k10⟩)
              | ((with_reducible refine (c2 _ (by (repeat' apply And.intro) <;> (first | (with_reducible assumption) | (rw [World.cell?_drew]; with_reducible assumption) | (with_reducible apply below_drew; with_reducible assumption) | (simp <;> omega)))).mono ?_); rintro e w' ⟨rfl, k0, k1, k2, k3, k4, k5, k6, k7, k8, k9, k10⟩)
              | ((with_reducible refine (c3 _ (by (repeat' apply And.intro) <;> (first | (with_reducible assumption) | (rw [World.cell?_drew]; with_reducible assumption) | (with_reducible apply below_drew; with_reducible assumption) | (simp <;> omega)))).mono ?_); rintro e w' ⟨rfl, k0, k1, k2, k3, k4, k5, k6, k7, k8, k9, k10⟩)
              | ((with_reducible refine (c4 _ (by (repeat' apply And.intro) <;> (first | (with_reducible assumption) | (rw [World.cell?_drew]; with_reducible assumption) | (with_reducible apply below_drew; with_reducible assumption) | (simp <;> omega)))).mono ?_); rintro e w' ⟨rfl, k0, k1, k2, k3, k4, k5, k6, k7, k8, k9, k10⟩)
              | ((with_reducible refine (c5 _ (by (repeat' apply And.intro) <;> (first | (with_reducible assumption) | (rw [World.cell?_drew]; with_reducible assumption) | (with_reducible apply below_drew; with_reducible assumption) | (simp <;> omega)))).mono ?_); rintro e w' ⟨rfl, k0, k1, k2, k3, k4, k5, k6, k7, k8, k9, k10⟩)
              | ((with_reducible refine (c6 _ (by (repeat' apply And.intro) <;> (first | (with_reducible assumption) | (rw [World.cell?_drew]; with_reducible assumption) | (with_reducible apply below_drew; with_reducible assumption) | (simp <;> omega)))).mono ?_); rintro e w' ⟨rfl, k0, k1, k2, k3, k4, k5, k6, k7, k8, k9, k10⟩))
          all_goals (try go_wp2)
          all_goals go_ret
          all_goals
            refine ⟨by first | rfl | (simp; done), HP6.out.2.trans (Below.mono ?_ HP6.out.size)⟩
            repeat (first | (with_reducible assumption) | (with_reducible apply below_drew))
end Go.Proofs.Ytpfeiolmkbibiaa
