/- The document's heads of externs and functions. -/
import Derived.Test.YtmampoakdjjbiaaGreatDoorSpU
import Derived.Test.YtmampoakdjjbiaaGreatDoorSpLen
namespace Go.Proofs.YtmampoakdjjbiaaGreatDoor
open Go.RowKit Go.Maps
set_option linter.unusedVariables false
set_option linter.unusedSimpArgs false

theorem listStep0 {α : Type} (f : α → Tx) (l : List α) (h : 0 < l.length) : listT ((l.take (0 + 1)).map f) = f l[0] := by
  rw [List.take_succ_eq_append_getElem h]
  rfl
theorem listStep {α : Type} (f : α → Tx) (l : List α) (i : Nat) (h : i < l.length) (h0 : i ≠ 0) : listT ((l.take (i + 1)).map f) = listT ((l.take i).map f) ++ ([44, 32] ++ f l[i]) := by
  rw [List.take_succ_eq_append_getElem h, List.map_append]
  unfold listT
  rw [show List.map f [l[i]] = [f l[i]] from rfl, sepBy_snoc, if_neg (by
    intro k
    have h3 : (List.map f (l.take i)).length = 0 := by rw [k]; rfl
    rw [List.length_map, List.length_take] at h3
    omega), List.append_assoc]
set_option maxRecDepth 100000 in
set_option maxHeartbeats 2000000 in
theorem rSaid_any (nm : ByteArray) (pp : Option Addr) (pn pc : Nat) (ps : List Int) (rt : Int) (hs : nm.size ≤ 1048576) (hl : ps.length ≤ 1048576) (W : World) (h : ListIn intC NoMem W.heap.size W pp pn pc ps) :
    Calls Tryz.prog 38 #[.string nm, .slice pp pn pc, .int .i64 rt] W (StrE (headT nm ps rt) W) := by
  obtain rfl : pn = ps.length := h.1
  have hc1 := h.2.1
  have hc2 := h.2.2.1
  unfold maxLen at hc2
  have HH := Lib.hid h
  clear h
  go_enter Tryz.func38, Tryz.ntmps38
  go_wp2_with fail
  go_loopw [7, 8] (fun ts ti wr => ∃ (i : Nat) (s : ByteArray), i ≤ ps.length ∧ ti = .int .i64 i ∧ ts = .string s ∧ Hid (s = mkS (byt nm ++ 40 :: listT ((ps.take i).map typeT))) ∧ s.size ≤ 1048577 + i * 23 ∧ Below W.heap.size W wr) (fun _ ti _ => ps.length - (intOf ti).toNat)
  case atStart =>
    refine ⟨0, _, Nat.zero_le _, rfl, rfl, Lib.hid ?_, ?_, Below.refl _ _⟩
    · rw [show (⟨#[40]⟩ : ByteArray) = mkS [40] from rfl, ← mkS_byt nm, mkS_app, byt_mkS]
      rfl
    · rw [ByteArray.size_append]
      show nm.size + 1 ≤ _
      omega
  case round =>
    obtain ⟨i, s, hi, rfl, rfl, hd, hsz, hb⟩ := hrel
    by_cases hlt : i < ps.length
    · obtain ⟨a, rfl, hab, k0⟩ := row_I HH.out i hlt
      have k0 := (hb.cell (p := a.add i) (by rw [add_block]; exact hab)).trans k0
      have C := Lib.hid (rType_any ps[i])
      have hl2 : (mkS (typeT ps[i])).size ≤ 21 := by rw [size_mkS]; exact typeT_len' _
      have HB := Lib.hid hb
      have hst0 := fun (h0 : i = 0) => (by subst h0; rw [hd.out, mkS_app, listStep0 typeT ps (by omega)]; simp [listT, sepBy] : s ++ mkS (typeT ps[i]) = mkS (byt nm ++ 40 :: listT ((ps.take (i + 1)).map typeT)))
      have hst := fun (h0 : i ≠ 0) => (by rw [hd.out, show (⟨#[44, 32]⟩ : ByteArray) = mkS [44, 32] from rfl, mkS_app, mkS_app, listStep typeT ps i hlt h0]; simp : s ++ ⟨#[44, 32]⟩ ++ mkS (typeT ps[i]) = mkS (byt nm ++ 40 :: listT ((ps.take (i + 1)).map typeT)))
      obtain ⟨x, ex⟩ : ∃ x, ps[i] = x := ⟨_, rfl⟩
      simp only [ex] at C hl2 hst0 hst k0
      have C : Hid (∀ W, Calls Tryz.prog 13 #[.int .i64 x] W (StrV (mkS (typeT x)) W)) := C
      obtain ⟨t, et⟩ : ∃ t, mkS (typeT x) = t := ⟨_, rfl⟩
      rw [et] at C hl2 hst0 hst
      have H0 := Lib.hid hst0
      have H1 := Lib.hid hst
      clear hst0 hst et ex hd hb
      have hpl : i ≤ 1048576 := by omega
      by_cases h0 : i = 0
      · have d0 : decide (0 < i) = false := by simp; omega
        have d0' : decide ((0 : Int) < (i : Int)) = false := by simp; omega
        have HI := Lib.hid h0
        clear h0
        go_wp2_with fail
        refine (C.out _).mono ?_
        rintro e w2 ⟨rfl, hb2⟩
        have HB2 := Lib.hid (HB.out.trans (hb2.mono HB.out.size))
        clear hb2
        go_wp2_with fail
        exact ⟨⟨i + 1, _, by omega, by go_num, rfl, Lib.hid (H0.out HI.out), by rw [ByteArray.size_append]; omega, HB2.out⟩, by simp [intOf]; omega⟩
      · have d0 : decide (0 < i) = true := by simp; omega
        have d0' : decide ((0 : Int) < (i : Int)) = true := by simp; omega
        have HI := Lib.hid h0
        clear h0
        go_wp2_with fail
        refine (C.out _).mono ?_
        rintro e w2 ⟨rfl, hb2⟩
        have HB2 := Lib.hid (HB.out.trans (hb2.mono HB.out.size))
        clear hb2
        go_wp2_with fail
        exact ⟨⟨i + 1, _, by omega, by go_num, rfl, Lib.hid (H1.out HI.out), by rw [ByteArray.size_append, ByteArray.size_append]; show s.size + 2 + t.size ≤ _; omega, HB2.out⟩, by simp [intOf]; omega⟩
    · obtain rfl : i = ps.length := by omega
      have C := Lib.hid (rType_any rt)
      have hl2 : (mkS (typeT rt)).size ≤ 21 := by rw [size_mkS]; exact typeT_len' _
      have hfin : s ++ ⟨#[41, 32]⟩ ++ mkS (typeT rt) ++ ⟨#[10]⟩ = mkS (headT nm ps rt) := by
        rw [hd.out, List.take_length, show (⟨#[41, 32]⟩ : ByteArray) = mkS [41, 32] from rfl, show (⟨#[10]⟩ : ByteArray) = mkS [10] from rfl, mkS_app, mkS_app, mkS_app]
        congr 1
        unfold headT
        simp
      have HB := Lib.hid hb
      have C : Hid (∀ W, Calls Tryz.prog 13 #[.int .i64 rt] W (StrV (mkS (typeT rt)) W)) := C
      obtain ⟨t, et⟩ : ∃ t, mkS (typeT rt) = t := ⟨_, rfl⟩
      rw [et] at C hl2 hfin
      have HF := Lib.hid hfin
      clear et hfin hd hb
      go_wp2_with fail
      refine (C.out _).mono ?_
      rintro e w2 ⟨rfl, hb2⟩
      have HB2 := Lib.hid (HB.out.trans (hb2.mono HB.out.size))
      clear hb2
      go_wp2_with fail
      go_ret
      exact ⟨by rw [← HF.out]; rfl, HB2.out⟩
end Go.Proofs.YtmampoakdjjbiaaGreatDoor
