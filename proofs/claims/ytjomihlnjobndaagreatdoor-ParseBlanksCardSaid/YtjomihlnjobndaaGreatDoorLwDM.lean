/- ParseBlanks: the walk. -/
import Derived.Test.YtjomihlnjobndaaGreatDoorMg19
import Derived.Test.YtjomihlnjobndaaGreatDoorPsRelEM
namespace Go.Proofs.YtjomihlnjobndaaGreatDoor
open Go.RowKit Go.Maps
set_option linter.unusedVariables false
set_option linter.unusedSimpArgs false
set_option maxRecDepth 100000
set_option maxHeartbeats 8000000

theorem flat_at (ts : List Tok) (i j : Nat) (hi : i < ts.length) (hj : j < 4) : (ts.flatMap tokC)[i * 4 + j]? = (tokC ts[i])[j]? := by
  induction ts generalizing i with
  | nil => simp at hi
  | cons t r ih =>
    rw [List.flatMap_cons]
    cases i with
    | zero =>
      rw [List.getElem?_append_left (by simp [tokC]; omega)]
      simp
    | succ i =>
      rw [List.getElem?_append_right (by simp [tokC]; omega)]
      have e : (i + 1) * 4 + j - (tokC t).length = i * 4 + j := by simp [tokC]; omega
      rw [e, ih i (by simpa using hi)]
      simp
/-- The row of an answer, at its elements. -/
theorem row_at {w : World} {B g cap : Nat} {ts : List Tok} (h : w.ownsRow B 30 4 (.slice (some ⟨g, 0, none⟩) ts.length cap) ts.length (ts.flatMap tokC)) (i : Nat) (hi : i < ts.length) :
    w.cell? ⟨g, i * 4, none⟩ = some (.int .i64 ts[i].kind) ∧ w.cell? ⟨g, i * 4 + 1, none⟩ = some (.string (str ts[i].body)) ∧ w.cell? ⟨g, i * 4 + 2, none⟩ = some (.int .i64 ts[i].line) ∧ w.cell? ⟨g, i * 4 + 3, none⟩ = some (.int .i64 ts[i].col) := by
  refine ⟨?_, ?_, ?_, ?_⟩
  · have := h.cellAt (i * 4) (by omega); rw [this]; exact flat_at ts i 0 hi (by omega)
  · have := h.cellAt (i * 4 + 1) (by omega); rw [this]; exact flat_at ts i 1 hi (by omega)
  · have := h.cellAt (i * 4 + 2) (by omega); rw [this]; exact flat_at ts i 2 hi (by omega)
  · have := h.cellAt (i * 4 + 3) (by omega); rw [this]; exact flat_at ts i 3 hi (by omega)
def noM : LMod := ⟨none, 0, 0, [], none, 0, 0, [], none, 0, 0, []⟩
theorem noM_in (B : Nat) (w : World) : ModIn B w noM := ⟨in_nil B w, in_nil B w, in_nil B w⟩
def PEr (r : Except Flt PMod) (m : LMod) (c : Nat) : Prop := match r with | .ok mm => c = 0 ∧ modD m = mm | .error f => c = f.code ∧ modD m = modD noM
/-- What a parse's end looks like, by what the pure parser answers. -/
def PE (r : Except Flt PMod) (W : World) (e : Ending) (w' : World) : Prop :=
  ∃ (m : LMod) (c ln cl : Nat), e = .returned (.tuple #[.agg #[.slice m.vp m.vn m.vc, .slice m.xp m.xn m.xc, .slice m.fp m.fn m.fc], .agg #[.int .i64 c, .int .i64 ln, .int .i64 cl]]) ∧ ModIn w'.heap.size w' m ∧ Below W.heap.size W w' ∧ PEr r m c
theorem PsEnds.two {W w' : World} {l : List UInt8} {e : Ending} (h : PsEnds W l e w') {ts : List Tok} (hx : Lexed l 1 1 ts none) (hl : l.length ≤ 65536) : PE (parseP (endTk l) ts) W e w' := by
  obtain ⟨ts', f0, hT, hB, h⟩ := h
  have hT' : Toks l ts none := .inr ⟨hl, ts, hx, rfl⟩
  obtain ⟨rfl, rfl⟩ := hT.unique hT'
  rcases h with ⟨f, h1, h2, h3⟩ | ⟨_, m, h1, h2, h3⟩
  · rcases h1 with h1 | ⟨_, h1⟩
    · cases h1
    · exact ⟨noM, f.code, f.line, f.col, h2, noM_in _ _, hB, by rw [h1]; exact ⟨rfl, rfl⟩⟩
  · exact ⟨m, 0, 0, 0, h2, h3, hB, by rw [h1]; exact ⟨rfl, rfl⟩⟩
theorem PE.same {r r' : Except Flt PMod} (h : SameE r r') {m m' : LMod} {c c' : Nat} (h1 : PEr r m c) (h2 : PEr r' m' c') : c = c' ∧ modD m = modD m' := by
  cases r with
  | ok a =>
    cases r' with
    | ok b => have h : a = b := h; subst h; exact ⟨h1.1.trans h2.1.symm, h1.2.trans h2.2.symm⟩
    | error f => exact h.elim
  | error f =>
    cases r' with
    | ok b => exact h.elim
    | error g => have h : f.code = g.code := h; exact ⟨h1.1.trans (h.trans h2.1.symm), h1.2.trans h2.2.symm⟩
/-- The text without ends of lines. -/
def cln (l : List UInt8) : List UInt8 := l.filter fun y => y.toNat ≠ 10
theorem cln_no (l : List UInt8) : ∀ y ∈ cln l, y.toNat ≠ 10 := fun y hy => by unfold cln at hy; simpa using (List.mem_filter.1 hy).2
theorem cln_len (l : List UInt8) : (cln l).length ≤ l.length := List.length_filter_le _ _
theorem cln_next (r : ByteArray) (k : Nat) (h : k < r.size) : cln (r.data.toList.take (k + 1)) = cln (r.data.toList.take k) ++ if r[k].toNat = 10 then [] else [r[k]] := by
  have h' : k < r.data.toList.length := by rw [← Lib.size_eq]; exact h
  unfold cln
  rw [List.take_succ_eq_append_getElem h', List.filter_append]
  congr 1
  have e : r.data.toList[k] = r[k] := by simp; rfl
  rw [e]
  by_cases c : r[k].toNat = 10
  · simp [c]
  · simp [c]
theorem app_list (a b : ByteArray) : (a ++ b).data.toList = a.data.toList ++ b.data.toList := by simp
theorem one_list (r : ByteArray) (k : Nat) (h : k < r.size) : (r.extract k (k + 1)).data.toList = [r[k]] := by
  have h' : k < r.data.size := h
  rw [ByteArray.data_extract, Array.toList_extract]
  have h2 : k < r.data.toList.length := by rw [Array.length_toList]; exact h'
  rw [List.extract_eq_take_drop, Nat.add_sub_cancel_left, List.drop_eq_getElem_cons h2]
  simp
  rfl
theorem parseBlanks_walk (s r : ByteArray) (hs : s.size ≤ 281474976710656) (hr : r.size ≤ 281474976710656) (W : World) (hK : Stc W) :
    Calls Tryz.prog 3 #[.string s, .string r] W fun e w' => e = .returned (.bool true) ∧ Below W.heap.size W w' := by
  have c0 := lives4_any W hK
  have cT : ∀ w, Below W.heap.size W w → Calls Tryz.prog 9 #[.string s] w (TokEnds w s.data.toList) := fun w hb => Tokens_any s (by omega) w (hK.later hb).1
  have cP : ∀ w, Below W.heap.size W w → ∀ x : ByteArray, x.size ≤ 281474976710656 → Calls Tryz.prog 10 #[.string x] w (PsEnds w x.data.toList) := fun w hb x hx => Parse_any x (by omega) w (hK.later hb)
  by_cases q1 : 4000 < s.size
  · go_enter Tryz.func3, Tryz.ntmps3
    go_wp2_with ((with_reducible refine c0.mono ?_); rintro e w1 ⟨rfl, hB1⟩)
    go_ret
    exact ⟨rfl, hB1⟩
  by_cases q2 : 1000 < r.size
  · go_enter Tryz.func3, Tryz.ntmps3
    go_wp2_with ((with_reducible refine c0.mono ?_); rintro e w1 ⟨rfl, hB1⟩)
    go_ret
    exact ⟨rfl, hB1⟩
  go_enter Tryz.func3, Tryz.ntmps3
  go_wp2_with ((with_reducible refine c0.mono ?_); rintro e w1 ⟨rfl, hB1⟩)
  have HB1 := Lib.hid hB1
  have CT := Lib.hid cT
  have CP := Lib.hid cP
  clear c0 cT cP hB1
  go_loopw [5, 6] (fun tc ti wr => ∃ (c : ByteArray) (k : Nat), k ≤ r.size ∧ ti = .int .i64 k ∧ tc = .string c ∧ Hid (c.data.toList = cln (r.data.toList.take k)) ∧ Hid (Below W.heap.size W wr)) (fun _ ti _ => r.size - (intOf ti).toNat)
  case atStart => exact ⟨⟨#[]⟩, 0, Nat.zero_le _, rfl, rfl, Lib.hid rfl, HB1⟩
  case round =>
    obtain ⟨c, k, hk, rfl, rfl, hC, hB⟩ := hrel
    have hcs : c.size ≤ 1000 := by
      have e : c.size = c.data.toList.length := by rw [Lib.size_eq]
      rw [e, hC.out]
      refine Nat.le_trans (cln_len _) ?_
      rw [List.length_take]
      omega
    by_cases hlt : k < r.size
    · by_cases h10 : r[k].toNat = 10
      · have e10 : ((r[k].toNat : Int) != 10) = false := by rw [h10]; rfl
        have hC2 := Lib.hid (show c.data.toList = cln (r.data.toList.take (k + 1)) by rw [cln_next r k hlt, if_pos h10, List.append_nil]; exact hC.out)
        clear h10
        go_wp2_with fail
        exact ⟨⟨c, k + 1, by omega, by go_num, rfl, hC2, hB⟩, by simp [intOf]; omega⟩
      · have e10 : ((r[k].toNat : Int) != 10) = true := by simp; omega
        have hC2 := Lib.hid (show (c ++ r.extract k (k + 1)).data.toList = cln (r.data.toList.take (k + 1)) by rw [app_list, one_list r k hlt, cln_next r k hlt, if_neg h10, hC.out])
        clear h10
        go_wp2_with fail
        exact ⟨⟨c ++ r.extract k (k + 1), k + 1, by omega, by go_num, rfl, hC2, hB⟩, by simp [intOf]; omega⟩
    · obtain rfl : k = r.size := by omega
      have hC3 : c.data.toList = cln r.data.toList := by
        have := hC.out
        rw [Lib.size_eq, List.take_length] at this
        exact this
      have HC := Lib.hid hC3
      have c2 := CT.out wr hB.out
      clear hC hC3 hk hlt
      have hM : Hid (s.data.toList.length = s.size ∧ c.data.toList.length = c.size) := Lib.hid ⟨by rw [← Lib.size_eq], by rw [← Lib.size_eq]⟩
      generalize hl0 : s.data.toList = l at c2 hM
      have HL0 := Lib.hid hl0
      clear hl0
      go_wp2_with fail
      refine c2.mono ?_
      rintro e w2 ⟨ts, f, v, hT, rfl, hB2, hown⟩
      have F := ((Fr.start W).later (hB.out.trans (hB2.mono hB.out.size)))
      cases f with
      | some x =>
        obtain ⟨hc, -⟩ := toks_some hT
        have hc2 : ((x.code : Int) != 0) = true := by simp; omega
        have HF := Lib.hid F
        clear F hc hown hB2
        simp only [fltV]
        go_wp2_with fail
        go_ret
        exact ⟨rfl, (HF.out.alloc _).1⟩
      | none =>
        obtain ⟨hl, hx⟩ : l.length ≤ 65536 ∧ Lexed l 1 1 ts none := by
          rcases hT with ⟨_, _, h4⟩ | ⟨hl, t, hx, ht⟩
          · cases h4
          · have : ts = t := ht
            subst this
            exact ⟨hl, hx⟩
        have HX := Lib.hid hx
        have HL := Lib.hid hl
        have HG := Lib.hid (lexed_gd hx hl)
        obtain ⟨p, cap, rfl, hp⟩ : ∃ p cap, v = .slice p ts.length cap ∧ ∀ k, k < ts.length → ∃ g, p = some ⟨g, 0, none⟩ := by
          rcases hown.2 with ⟨e, e0⟩ | ⟨g, cap, cur, e, _⟩
          · exact ⟨none, 0, by rw [e, e0], fun k hk => by omega⟩
          · exact ⟨_, cap, e, fun _ _ => ⟨g, rfl⟩⟩
        have HO := Lib.hid hown
        have HP := Lib.hid hp
        have k1 : ts.length ≤ cap ∧ cap ≤ 9223372036854775807 := by
          rcases hown.2 with ⟨e, e0⟩ | ⟨g, cap', cur, e, _, _, h1, h2, _⟩
          · injection e with _ e1 e2; exact ⟨by omega, by omega⟩
          · injection e with _ e1 e2; subst e2; unfold maxLen at h2; exact ⟨h1, h2⟩
        have k2 := k1.1
        have k3 := k1.2
        have HF := Lib.hid (F.push (g := w2.heap.size) rfl [.int .i64 0, .int .i64 0, .int .i64 0] 26)
        simp only [fltV]
        have z1 : (⟨#[35]⟩ : ByteArray).size = 1 := rfl
        have hcl : c.size ≤ 1000 := by rw [← hM.out.2, HC.out]; exact Nat.le_trans (cln_len _) (by rw [← Lib.size_eq]; omega)
        have HCL := Lib.hid hcl
        have HB3 := Lib.hid (show Below w2.heap.size w2 (w2.alloc (.cells #[.int .i64 0, .int .i64 0, .int .i64 0] 26)) from (Below.refl _ _).alloc (Nat.le_refl _) _)
        clear hown hp hT hx hl hB2 F k1 hB
        go_wp2_with fail
        have hcn := cln_no r.data.toList
        have hccl := HC.out
        generalize cln r.data.toList = cl at HC hcn hccl
        have HCN := Lib.hid hcn
        have hx0 : ({ data := #[35] } ++ c ++ { data := #[10] } : ByteArray).data.toList = (35 :: (cl ++ [10])) ++ (ts.take 0).flatMap (wdT cl) := by
          rw [app_list, app_list, hccl]
          simp
        have HX0 := Lib.hid hx0
        have hs0 : ({ data := #[35] } ++ c ++ { data := #[10] } : ByteArray).size ≤ 65000 := by
          rw [ByteArray.size_append, ByteArray.size_append]
          have e1 : (⟨#[35]⟩ : ByteArray).size = 1 := rfl
          have e2 : (⟨#[10]⟩ : ByteArray).size = 1 := rfl
          omega
        have HS0 := Lib.hid hs0
        have HBX := Lib.hid HF.out.1
        clear hcn hccl hx0 hs0 HF
        generalize ({ data := #[35] } ++ c ++ { data := #[10] } : ByteArray) = x0 at *
        generalize w2.alloc (.cells #[.int .i64 0, .int .i64 0, .int .i64 0] 26) = wx at *
        generalize wr = wq at *
        go_loopw [9, 56] (fun tx ti wr => ∃ (x : ByteArray) (k : Nat), k ≤ ts.length ∧ ti = .int .i64 k ∧ tx = .string x ∧ Hid (x.data.toList = (35 :: (cl ++ [10])) ++ (ts.take k).flatMap (wdT cl)) ∧ Hid (x.size ≤ 65000) ∧ Hid (Below W.heap.size W wr) ∧ Hid (Below w2.heap.size w2 wr)) (fun _ ti _ => ts.length - (intOf ti).toNat)
        case atStart => exact ⟨x0, 0, Nat.zero_le _, rfl, rfl, HX0, HS0, HBX, HB3⟩
        case round =>
          obtain ⟨x, k, hk, rfl, rfl, hX, hS, hB, hB2⟩ := hrel
          clear HX0 HS0 HBX
          by_cases hlt : k < ts.length
          · obtain ⟨g, rfl⟩ := HP.out k hlt
            obtain ⟨y0, y1, y2, y3⟩ := row_at HO.out k hlt
            have hg : g < w2.heap.size := (HO.out.lt g rfl).2
            replace y0 := (hB2.out.cell (p := ⟨g, k * 4, none⟩) hg).trans y0
            replace y1 := (hB2.out.cell (p := ⟨g, k * 4 + 1, none⟩) hg).trans y1
            replace y2 := (hB2.out.cell (p := ⟨g, k * 4 + 2, none⟩) hg).trans y2
            replace y3 := (hB2.out.cell (p := ⟨g, k * 4 + 3, none⟩) hg).trans y3
            have hbl := (HG.out _ (List.getElem_mem hlt)).len
            have hw : (ts.take (k + 1)).flatMap (wdT cl) = (ts.take k).flatMap (wdT cl) ++ wdT cl ts[k] := by
              rw [List.take_succ_eq_append_getElem hlt, List.flatMap_append]; simp
            obtain ⟨⟨kd, b, tl, tc⟩, ex⟩ : ∃ t, ts[k] = t := ⟨_, rfl⟩
            rw [ex] at y0 y1 y2 y3 hbl hw
            simp only at y0 y1 y2 y3 hbl
            have hsb : (str b).size ≤ 65536 := by rw [str_size]; exact hbl
            have hsx := hS.out
            have hsc := HCL.out
            have HBl := Lib.hid (hB.out.alloc hB.out.size (.cells #[.int .i64 kd, .string (str b), .int .i64 tl, .int .i64 tc] 30))
            have HB2l := Lib.hid (hB2.out.alloc hB2.out.size (.cells #[.int .i64 kd, .string (str b), .int .i64 tl, .int .i64 tc] 30))
            clear ex hg hbl
            by_cases q3 : kd = 3
            · subst q3
              have hn : ((x ++ ({ data := #[32, 9, 37] } ++ str b)) : ByteArray).data.toList = (35 :: (cl ++ [10])) ++ (ts.take (k + 1)).flatMap (wdT cl) := by
                rw [hw, app_list, hX.out, app_list, str_list, List.append_assoc]
                unfold wdT
                simp
              have HN := Lib.hid hn
              have hz : ((x ++ ({ data := #[32, 9, 37] } ++ str b)) : ByteArray).size = x.size + (3 + (str b).size) := by
                rw [ByteArray.size_append, ByteArray.size_append]; rfl
              clear hn hw
              by_cases hbig : 65000 < ((x ++ ({ data := #[32, 9, 37] } ++ str b)) : ByteArray).size
              · have hb2 : decide ((65000 : Int) < (((x ++ ({ data := #[32, 9, 37] } ++ str b)) : ByteArray).size : Int)) = true := decide_eq_true (by omega)
                go_wp2_with fail
                go_ret
                exact ⟨rfl, HBl.out⟩
              · have hb2 : decide ((65000 : Int) < (((x ++ ({ data := #[32, 9, 37] } ++ str b)) : ByteArray).size : Int)) = false := decide_eq_false (by omega)
                have hb3 : ¬ (65000 : Int) < (((x ++ ({ data := #[32, 9, 37] } ++ str b)) : ByteArray).size : Int) := by omega
                have HS2 := Lib.hid (show ((x ++ ({ data := #[32, 9, 37] } ++ str b)) : ByteArray).size ≤ 65000 by omega)
                go_wp2_with fail
                exact ⟨⟨(x ++ ({ data := #[32, 9, 37] } ++ str b)), k + 1, by omega, by go_num, rfl, HN, HS2, HBl, HB2l⟩, by simp [intOf]; omega⟩
            · by_cases q4 : kd = 4
              · subst q4
                have hn : ((x ++ ({ data := #[32, 64] } ++ str b)) : ByteArray).data.toList = (35 :: (cl ++ [10])) ++ (ts.take (k + 1)).flatMap (wdT cl) := by
                  rw [hw, app_list, hX.out, app_list, str_list, List.append_assoc]
                  unfold wdT
                  simp
                have HN := Lib.hid hn
                have hz : ((x ++ ({ data := #[32, 64] } ++ str b)) : ByteArray).size = x.size + (2 + (str b).size) := by
                  rw [ByteArray.size_append, ByteArray.size_append]; rfl
                clear hn hw
                by_cases hbig : 65000 < ((x ++ ({ data := #[32, 64] } ++ str b)) : ByteArray).size
                · have hb2 : decide ((65000 : Int) < (((x ++ ({ data := #[32, 64] } ++ str b)) : ByteArray).size : Int)) = true := decide_eq_true (by omega)
                  go_wp2_with fail
                  go_ret
                  exact ⟨rfl, HBl.out⟩
                · have hb2 : decide ((65000 : Int) < (((x ++ ({ data := #[32, 64] } ++ str b)) : ByteArray).size : Int)) = false := decide_eq_false (by omega)
                  have hb3 : ¬ (65000 : Int) < (((x ++ ({ data := #[32, 64] } ++ str b)) : ByteArray).size : Int) := by omega
                  have HS2 := Lib.hid (show ((x ++ ({ data := #[32, 64] } ++ str b)) : ByteArray).size ≤ 65000 by omega)
                  go_wp2_with fail
                  exact ⟨⟨(x ++ ({ data := #[32, 64] } ++ str b)), k + 1, by omega, by go_num, rfl, HN, HS2, HBl, HB2l⟩, by simp [intOf]; omega⟩
              · by_cases q6 : kd = 6
                · subst q6
                  have hn : ((x ++ ({ data := #[13, 35] } ++ c ++ { data := #[10, 32, 10] })) : ByteArray).data.toList = (35 :: (cl ++ [10])) ++ (ts.take (k + 1)).flatMap (wdT cl) := by
                    rw [hw, app_list, hX.out, app_list, app_list, HC.out, List.append_assoc]
                    unfold wdT
                    simp
                  have HN := Lib.hid hn
                  have hz : ((x ++ ({ data := #[13, 35] } ++ c ++ { data := #[10, 32, 10] })) : ByteArray).size = x.size + (2 + c.size + 3) := by
                    rw [ByteArray.size_append, ByteArray.size_append, ByteArray.size_append]; rfl
                  clear hn hw
                  have hnb : ¬ (9223372036854775807 : Int) < (x.size : Int) + (2 + c.size + 3) := by omega
                  go_upto_region 26 with fail
                  clear hnb
                  generalize (x ++ ({ data := #[13, 35] } ++ c ++ { data := #[10, 32, 10] }) : ByteArray) = xx at *
                  clear hz
                  by_cases hbig : 65000 < xx.size
                  · go_wp2_with fail
                    go_ret
                    exact ⟨rfl, HBl.out⟩
                  · have HS2 := Lib.hid (show xx.size ≤ 65000 by omega)
                    go_wp2_with fail
                    exact ⟨⟨xx, k + 1, by omega, by go_num, rfl, HN, HS2, HBl, HB2l⟩, by simp [intOf]; omega⟩
                · have hn : ((x ++ ({ data := #[32, 32] } ++ str b)) : ByteArray).data.toList = (35 :: (cl ++ [10])) ++ (ts.take (k + 1)).flatMap (wdT cl) := by
                    rw [hw, app_list, hX.out, app_list, str_list, List.append_assoc]
                    unfold wdT
                    simp [q3, q4, q6]
                  have HN := Lib.hid hn
                  have hz : ((x ++ ({ data := #[32, 32] } ++ str b)) : ByteArray).size = x.size + (2 + (str b).size) := by
                    rw [ByteArray.size_append, ByteArray.size_append]; rfl
                  clear hn hw
                  have g3 : ((kd : Int) == 3) = false := by simp; omega
                  have g4 : ((kd : Int) == 4) = false := by simp; omega
                  have g6 : ((kd : Int) == 6) = false := by simp; omega
                  by_cases hbig : 65000 < ((x ++ ({ data := #[32, 32] } ++ str b)) : ByteArray).size
                  · have hb2 : decide ((65000 : Int) < (((x ++ ({ data := #[32, 32] } ++ str b)) : ByteArray).size : Int)) = true := decide_eq_true (by omega)
                    go_wp2_with fail
                    go_ret
                    exact ⟨rfl, HBl.out⟩
                  · have hb2 : decide ((65000 : Int) < (((x ++ ({ data := #[32, 32] } ++ str b)) : ByteArray).size : Int)) = false := decide_eq_false (by omega)
                    have hb3 : ¬ (65000 : Int) < (((x ++ ({ data := #[32, 32] } ++ str b)) : ByteArray).size : Int) := by omega
                    have HS2 := Lib.hid (show ((x ++ ({ data := #[32, 32] } ++ str b)) : ByteArray).size ≤ 65000 by omega)
                    go_wp2_with fail
                    exact ⟨⟨(x ++ ({ data := #[32, 32] } ++ str b)), k + 1, by omega, by go_num, rfl, HN, HS2, HBl, HB2l⟩, by simp [intOf]; omega⟩
          · obtain rfl : k = ts.length := by omega
            have hX2 := hX.out
            rw [List.take_length] at hX2
            obtain ⟨ts', hx', u, rr, e1, e2, e3⟩ := lexed_wide (HCN.out) HX.out
            have hxl : (35 :: (cl ++ [10]) ++ ts.flatMap (wdT cl)).length ≤ 65536 := by
              rw [← hX2, ← Lib.size_eq]; have := hS.out; omega
            have hsame := parseP_blanks (en := endTk l) (en' := endTk (35 :: (cl ++ [10]) ++ ts.flatMap (wdT cl))) ⟨rfl, rfl⟩ rfl (.inr ⟨u, rr, e1, e2, e3⟩)
            have c3 : Calls Tryz.prog 10 #[.string s] wr (PE (parseP (endTk l) ts) wr) := (CP.out wr hB.out s hs).mono fun e w' h => by
              rw [HL0.out] at h
              exact h.two HX.out HL.out
            have c4 : ∀ w, Below W.heap.size W w → Calls Tryz.prog 10 #[.string x] w (PE (parseP (endTk (35 :: (cl ++ [10]) ++ ts.flatMap (wdT cl))) ts') w) := fun w hb => (CP.out w hb x (by have := hS.out; omega)).mono fun e w' h => by
              rw [hX2] at h
              exact h.two hx' hxl
            have HSM := Lib.hid hsame
            generalize parseP (endTk l) ts = r1 at c3 HSM
            generalize parseP (endTk (35 :: (cl ++ [10]) ++ ts.flatMap (wdT cl))) ts' = r2 at c4 HSM
            clear hX2 hx' e1 e2 e3 hxl hsame
            go_wp2_with fail
            refine c3.mono ?_
            rintro e w3 ⟨m, c1, l1, l2, rfl, hin, hB3, hr1⟩
            have F3 := ((((Fr.start W).later hB.out).later hB3).push (g := w3.heap.size) rfl [.slice m.vp m.vn m.vc, .slice m.xp m.xn m.xc, .slice m.fp m.fn m.fc] 35).push (g := w3.heap.size + 1) (by simp) [.int .i64 c1, .int .i64 l1, .int .i64 l2] 26
            have c5 := c4 _ F3.1
            have HF3 := Lib.hid F3
            have HIN := Lib.hid (show ModIn _ _ m from past_lasts lasts_Mod hin (((Past.refl (Nat.le_refl _)).alloc (.cells #[.slice m.vp m.vn m.vc, .slice m.xp m.xn m.xc, .slice m.fp m.fn m.fc] 35)).alloc (.cells #[.int .i64 c1, .int .i64 l1, .int .i64 l2] 26)))
            clear F3 hin hB3
            go_wp2_with fail
            refine c5.mono ?_
            rintro e w4 ⟨m', c2', l1', l2', rfl, hin', hB4, hr2⟩
            obtain ⟨ec, em⟩ := PE.same HSM.out hr1 hr2
            subst ec
            have F4 := ((HF3.out.later hB4).push (g := w4.heap.size) rfl [.slice m'.vp m'.vn m'.vc, .slice m'.xp m'.xn m'.xc, .slice m'.fp m'.fn m'.fc] 35).push (g := w4.heap.size + 1) (by simp) [.int .i64 c1, .int .i64 l1', .int .i64 l2'] 26
            obtain ⟨x0, x1, x2⟩ := (HF3.out.later hB4).c3 1 rfl
            obtain ⟨x3, x4, x5⟩ := (HF3.out.later hB4).c3 0 rfl
            have z1 := ((HF3.out.later hB4).at 1 rfl).2.1
            have z2 := ((HF3.out.later hB4).at 0 rfl).2.1
            have PA : Past w4.heap.size w4 ((w4.alloc (.cells #[.slice m'.vp m'.vn m'.vc, .slice m'.xp m'.xn m'.xc, .slice m'.fp m'.fn m'.fc] 35)).alloc (.cells #[.int .i64 c1, .int .i64 l1', .int .i64 l2'] 26)) := ((Past.refl (Nat.le_refl _)).alloc _).alloc _
            have cS := Same_any m m' _ (past_lasts lasts_Mod (lasts_Mod _ _ _ _ _ hB4 hB4.size HIN.out) PA) (past_lasts lasts_Mod hin' PA)
            have cS : Calls Tryz.prog 11 #[.agg #[.slice m.vp m.vn m.vc, .slice m.xp m.xn m.xc, .slice m.fp m.fn m.fc], .agg #[.slice m'.vp m'.vn m'.vc, .slice m'.xp m'.xn m'.xc, .slice m'.fp m'.fn m'.fc]] ((w4.alloc (.cells #[.slice m'.vp m'.vn m'.vc, .slice m'.xp m'.xn m'.xc, .slice m'.fp m'.fn m'.fc] 35)).alloc (.cells #[.int .i64 c1, .int .i64 l1', .int .i64 l2'] 26)) fun e w' => e = .returned (.bool true) ∧ Below W.heap.size W w' := cS.mono fun e w' ⟨b, h1, h2, h3⟩ => ⟨by rw [h1, h2.2 em], F4.1.trans (h3.mono F4.1.size)⟩
            clear hr1 hr2 em F4 hin' hB4 PA HIN HSM
            go_wp2_with (first
              | ((with_reducible refine cS.mono ?_); rintro e w6 ⟨rfl, hb6⟩))
            go_ret
            exact ⟨rfl, hb6⟩
theorem parseBlanks_at (s r : ByteArray) (hs : s.size ≤ 281474976710656) (hr : r.size ≤ 281474976710656) (W : World) (hK : Stc W) :
    Calls Tryz.prog 3 #[.string s, .string r] W fun e w' => e = .returned (.bool true) ∧ Below W.heap.size W w' := parseBlanks_walk s r hs hr W hK
end Go.Proofs.YtjomihlnjobndaaGreatDoor
