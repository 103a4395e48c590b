/- The document's numerals, words of types, blocks, operands. -/
import Derived.Test.YtmampoakdjjbiaaGreatDoorSpT
import Derived.Laws.IdiomStrings
namespace Go.Proofs.YtmampoakdjjbiaaGreatDoor
open Go.RowKit Go.Maps
set_option linter.unusedVariables false
set_option linter.unusedSimpArgs false

def mkS (t : Tx) : ByteArray := ⟨t.toArray⟩
theorem mkS_app (a b : Tx) : mkS a ++ mkS b = mkS (a ++ b) := by
  refine ByteArray.ext ?_
  rw [ByteArray.data_append]
  simp [mkS]
theorem mkS_byt (s : ByteArray) : mkS (byt s) = s := by
  refine ByteArray.ext ?_
  simp [mkS, byt]
set_option maxRecDepth 100000 in
set_option maxHeartbeats 1000000 in
theorem Digits_any (n : Nat) (hn : n < 18446744073709551616) (W : World) :
    Calls Tryz.prog 37 #[.int .u64 n] W fun e w' => e = .returned (.string (mkS (Lib.decDigits n))) ∧ Below W.heap.size W w' := by
  go_enter Tryz.func37, Tryz.ntmps37
  go_wp2_with fail
  go_loopw [0, 3] (fun tn ts wr => ∃ (k : Nat) (s : ByteArray), tn = .int .u64 k ∧ ts = .string s ∧ Hid (mkS (Lib.decDigits n) = mkS (Lib.decDigits k) ++ s) ∧ 4 * s.size + k ≤ n ∧ Below W.heap.size W wr) (fun tn _ _ => (intOf tn).toNat)
  case atStart => exact ⟨n, ⟨#[]⟩, rfl, rfl, Lib.hid (by rw [show (⟨#[]⟩ : ByteArray) = mkS [] from rfl, mkS_app, List.append_nil]), (show 4 * 0 + n ≤ n by omega), Below.refl _ _⟩
  case round =>
    obtain ⟨k, s, rfl, rfl, hd, hk, hb⟩ := hrel
    obtain ⟨c, ec⟩ : ∃ c : ByteArray, mkS [UInt8.ofNat (48 + k % 10)] = c := ⟨_, rfl⟩
    have hconv : (convert 67 9 (.slice (some ⟨wr.heap.size, 0, none⟩) 1 1)).run Tryz.prog (wr.alloc (.cells #[.int .u8 (48 + (k : Int) % 10)] 5)) = .ok (.string c) (wr.alloc (.cells #[.int .u8 (48 + (k : Int) % 10)] 5)) := by
      rw [← ec]
      refine run_convert_bytes_back _ _ _ 5 ⟨wr.heap.size, 0, none⟩ 1 [UInt8.ofNat (48 + k % 10)] Tryz.underlying67 Tryz.underlying5 Tryz.underlying9 (fun j hj => ?_)
      obtain rfl : j = 0 := by simpa using hj
      rw [show (⟨wr.heap.size, 0, none⟩ : Addr).add 0 = ⟨wr.heap.size, 0, none⟩ from rfl, World.cell?_alloc_at _ _ _ _ rfl]
      simp
      omega
    have hc1 : c.size = 1 := by rw [← ec]; rfl
    have hlim : ¬ 9223372036854775807 < c.size + s.size := by omega
    have hsn : (k / 10 = 0 → mkS (Lib.decDigits n) = c ++ s) ∧ (k / 10 ≠ 0 → mkS (Lib.decDigits n) = mkS (Lib.decDigits (k / 10)) ++ (c ++ s)) := by
      rw [hd.out, ← ec]
      refine ⟨fun h => ?_, fun h => ?_⟩
      · rw [Lib.decDigits_one (by omega), show k % 10 = k by omega]
      · conv => lhs; rw [Lib.decDigits]
        rw [dif_neg (by omega), ← mkS_app, ByteArray.append_assoc]
    have HSN := Lib.hid hsn
    have HB := Lib.hid (hb.alloc hb.size (.cells #[.int .u8 (48 + (k : Int) % 10)] 5))
    clear hd hsn hb ec
    by_cases h0 : k / 10 = 0
    · have d0 : ((k : Int) / 10 == 0) = true := by simp; omega
      have H0 := Lib.hid h0
      clear h0
      go_wp2_with fail
      go_ret
      exact ⟨by rw [HSN.out.1 H0.out]; rfl, HB.out⟩
    · have d0 : ((k : Int) / 10 == 0) = false := by simp; omega
      have H0 := Lib.hid h0
      clear h0
      go_wp2_with fail
      exact ⟨⟨k / 10, c ++ s, by simp, rfl, Lib.hid (HSN.out.2 H0.out), by have := H0.out; rw [ByteArray.size_append]; omega, HB.out⟩, by have := H0.out; simp [intOf]; omega⟩
theorem dec_len : ∀ (k n : Nat), n < 10 ^ (k + 1) → (Lib.decDigits n).length ≤ k + 1
  | 0, n, h => by rw [Lib.decDigits_one (by omega)]; simp
  | k + 1, n, h => by
    by_cases h1 : n < 10
    · rw [Lib.decDigits_one h1]; simp
    · rw [Lib.decDigits, dif_neg h1, List.length_append]
      have := dec_len k (n / 10) (by rw [Nat.div_lt_iff_lt_mul (by omega)]; rw [Nat.pow_succ] at h; exact h)
      simp
      omega
theorem dec_20 {n : Nat} (h : n < 18446744073709551616) : (Lib.decDigits n).length ≤ 20 := dec_len 19 n (by omega)
theorem size_mkS (t : Tx) : (mkS t).size = t.length := by simp [mkS, ByteArray.size]
theorem typeT_len {t : Int} : (typeT t).length ≤ 21 := by
  unfold typeT
  split
  · simp
  split
  · simp
  split
  · rename_i h
    have := dec_20 (n := t.toNat) (by omega)
    unfold decI
    simp
    omega
  · simp
def StrE (t : Tx) (W : World) (e : Ending) (w' : World) : Prop := e = .returned (.string (mkS t)) ∧ Below W.heap.size W w'
theorem u64_of_int {n : Int} (h : 0 ≤ n) (h2 : n ≤ 9223372036854775807) : IntKind.u64.wrap n = n := IntWalk.u64_in n ⟨h, by omega⟩
set_option maxRecDepth 100000 in
theorem rType_any (t : Int) (W : World) : Calls Tryz.prog 13 #[.int .i64 t] W (StrE (typeT t) W) := by
  by_cases h0 : t = 0
  · subst h0
    go_enter Tryz.func13, Tryz.ntmps13
    go_wp2_with fail
    go_ret
    exact ⟨rfl, Below.refl _ _⟩
  have d0 : (t == (0 : Int)) = false := by simp; exact h0
  by_cases h1 : t = 65
  · subst h1
    go_enter Tryz.func13, Tryz.ntmps13
    go_wp2_with fail
    go_ret
    exact ⟨rfl, Below.refl _ _⟩
  have d1 : (t == (65 : Int)) = false := by simp; exact h1
  by_cases h2 : 0 < t ∧ t < 65
  · have d2 : decide ((0 : Int) < t) = true := by simp [h2.1]
    have d3 : decide (t < (65 : Int)) = true := by simp [h2.2]
    obtain ⟨k, rfl⟩ : ∃ k : Nat, t = k := ⟨t.toNat, by omega⟩
    have hty : mkS (typeT (k : Int)) = mkS [105] ++ mkS (Lib.decDigits k) := by
      unfold typeT
      rw [if_neg h0, if_neg h1, if_pos h2, mkS_app]
      rfl
    have c := Digits_any k (by omega)
    have hk : k < 65 := by omega
    have hk0 : 0 < k := by omega
    have d2 : decide (0 < k) = true := by simp [hk0]
    have hl : (mkS (Lib.decDigits k)).size ≤ 20 := by
      rw [size_mkS]; exact dec_20 (by omega)
    unfold StrE
    rw [hty]
    obtain ⟨s, es⟩ : ∃ s, mkS (Lib.decDigits k) = s := ⟨_, rfl⟩
    rw [es] at c hl ⊢
    clear h0 h1 h2 hty es
    have C := Lib.hid c
    clear c
    go_enter Tryz.func13, Tryz.ntmps13
    go_wp2_with fail
    refine (C.out _).mono ?_
    rintro e w1 ⟨rfl, hb⟩
    have HB := Lib.hid hb
    clear hb
    go_wp2_with fail
    go_ret
    exact ⟨rfl, HB.out⟩
  · have hty : typeT t = [] := by
      unfold typeT
      rw [if_neg h0, if_neg h1, if_neg h2]
    rw [hty]
    have hor : t < 0 ∨ 65 < t := by omega
    clear hty h2
    rcases hor with h | h
    · have d2 : decide ((0 : Int) < t) = false := by simp; omega
      have D0 := Lib.hid h0
      clear h0 h1
      go_enter Tryz.func13, Tryz.ntmps13
      go_wp2_with fail
      go_ret
      exact ⟨rfl, Below.refl _ _⟩
    · have d2 : decide ((0 : Int) < t) = true := by simp; omega
      have d3 : decide (t < (65 : Int)) = false := by simp; omega
      clear h0 h1
      go_enter Tryz.func13, Tryz.ntmps13
      go_wp2_with fail
      go_ret
      exact ⟨rfl, Below.refl _ _⟩
/-- This very string. -/
def StrV (s : ByteArray) (W : World) (e : Ending) (w' : World) : Prop := e = .returned (.string s) ∧ Below W.heap.size W w'
theorem StrE.eq (t : Tx) : StrE t = StrV (mkS t) := rfl
set_option maxRecDepth 100000 in
theorem rBlock_any (n : Int) (h0 : 0 ≤ n) (h1 : n ≤ 9223372036854775807) (W : World) : Calls Tryz.prog 39 #[.int .i64 n] W (StrE (blockT n) W) := by
  obtain ⟨k, rfl⟩ : ∃ k : Nat, n = k := ⟨n.toNat, by omega⟩
  have hty : mkS (blockT (k : Int)) = mkS [98] ++ mkS (Lib.decDigits k) := by
    rw [mkS_app]
    rfl
  have C := Lib.hid (Digits_any k (by omega))
  have hk : k ≤ 9223372036854775807 := by omega
  have hl : (mkS (Lib.decDigits k)).size ≤ 20 := by rw [size_mkS]; exact dec_20 (by omega)
  rw [StrE.eq, hty]
  obtain ⟨s, es⟩ : ∃ s, mkS (Lib.decDigits k) = s := ⟨_, rfl⟩
  rw [es] at C hl ⊢
  clear h0 h1 hty es
  go_enter Tryz.func39, Tryz.ntmps39
  go_wp2_with fail
  refine (C.out _).mono ?_
  rintro e w1 ⟨rfl, hb⟩
  have HB := Lib.hid hb
  clear hb
  go_wp2_with fail
  go_ret
  exact ⟨rfl, HB.out⟩
theorem byt_mkS (t : Tx) : byt (mkS t) = t := by simp [byt, mkS]
set_option maxRecDepth 100000 in
set_option maxHeartbeats 4000000 in
theorem rValue_any (m : LMod) (v : Arg) (W : World) (hm : ModIn W.heap.size W m) (hs : ∀ g ∈ m.vs, g.nm.size ≤ 1048576) (hA : argB (modD m) v = true) (hb0 : 0 ≤ v.bits) (hb1 : v.bits < 18446744073709551616) :
    Calls Tryz.prog 108 #[.agg (modC m).toArray, .agg (argC v).toArray] W (StrE (argT m.vs v) W) := by
  obtain ⟨kd, nn, bt⟩ := v
  have hv := hm.1
  obtain ⟨vp, vn, vc, vs, xp, xn, xc, xs, fp, fn, fc, fs⟩ := m
  simp only at hv hs hb0 hb1
  clear hm
  show Calls Tryz.prog 108 #[.agg #[.slice vp vn vc, .slice xp xn xc, .slice fp fn fc], .agg #[.int .i64 kd, .int .i64 nn, .int .u64 bt]] W (StrE (argT vs ⟨kd, nn, bt⟩) W)
  have B2 := below2 W (.cells #[.slice vp vn vc, .slice xp xn xc, .slice fp fn fc] 26) (.cells #[.int .i64 kd, .int .i64 nn, .int .u64 bt] 86)
  have hA2 : (if kd = 1 then regB nn && decide (bt = 0) else if kd = 2 then decide (nn = 0) else if kd = 3 ∨ kd = 4 then decide (nn = 0 ∧ bt = 0) else if kd = 5 then decide (0 ≤ nn ∧ nn < vs.length ∧ bt = 0) else false) = true := hA
  clear hA
  have hk : kd = 1 ∨ kd = 2 ∨ kd = 3 ∨ kd = 4 ∨ kd = 5 ∨ (kd ≠ 1 ∧ kd ≠ 2 ∧ kd ≠ 3 ∧ kd ≠ 4 ∧ kd ≠ 5) := by omega
  rcases hk with rfl | rfl | rfl | rfl | rfl | ⟨n1, n2, n3, n4, n5⟩
  · have hr : 0 ≤ nn ∧ nn ≤ 4095 := by
      rw [if_pos rfl, Bool.and_eq_true] at hA2
      exact of_decide_eq_true hA2.1
    obtain ⟨k, rfl⟩ : ∃ k : Nat, nn = k := ⟨nn.toNat, by omega⟩
    have hk2 : k ≤ 4095 := by omega
    have hty : mkS (argT vs ⟨1, (k : Int), bt⟩) = mkS [37] ++ mkS (Lib.decDigits k) := by rw [mkS_app]; rfl
    have C := Lib.hid (Digits_any k (by omega))
    have hl : (mkS (Lib.decDigits k)).size ≤ 20 := by rw [size_mkS]; exact dec_20 (by omega)
    rw [StrE.eq, hty]
    obtain ⟨s, es⟩ : ∃ s, mkS (Lib.decDigits k) = s := ⟨_, rfl⟩
    rw [es] at C hl ⊢
    have HB2 := Lib.hid B2
    clear hty es hA2 hs hv hr hb0 hb1 B2
    go_enter Tryz.func108, Tryz.ntmps108
    go_wp2_with fail
    refine (C.out _).mono ?_
    rintro e w1 ⟨rfl, hb⟩
    have HB := Lib.hid hb
    clear hb
    go_wp2_with fail
    go_ret
    exact ⟨rfl, HB2.out.trans (HB.out.mono HB2.out.size)⟩
  · obtain ⟨k, rfl⟩ : ∃ k : Nat, bt = k := ⟨bt.toNat, by omega⟩
    have hty : mkS (argT vs ⟨2, nn, (k : Int)⟩) = mkS (Lib.decDigits k) := rfl
    have C := Lib.hid (Digits_any k (by omega))
    rw [StrE.eq, hty]
    obtain ⟨s, es⟩ : ∃ s, mkS (Lib.decDigits k) = s := ⟨_, rfl⟩
    rw [es] at C ⊢
    have HB2 := Lib.hid B2
    clear hty es hA2 hs hv hb0 hb1 B2
    go_enter Tryz.func108, Tryz.ntmps108
    go_wp2_with fail
    refine (C.out _).mono ?_
    rintro e w1 ⟨rfl, hb⟩
    have HB := Lib.hid hb
    clear hb
    go_wp2_with fail
    go_ret
    exact ⟨rfl, HB2.out.trans (HB.out.mono HB2.out.size)⟩
  · have HB2 := Lib.hid B2
    clear hA2 hs hv hb0 hb1 B2
    rw [StrE.eq, show argT vs ⟨3, nn, bt⟩ = [112, 111, 105, 115, 111, 110] from rfl]
    go_enter Tryz.func108, Tryz.ntmps108
    go_wp2_with fail
    go_ret
    exact ⟨rfl, HB2.out⟩
  · have HB2 := Lib.hid B2
    clear hA2 hs hv hb0 hb1 B2
    rw [StrE.eq, show argT vs ⟨4, nn, bt⟩ = [110, 117, 108, 108] from rfl]
    go_enter Tryz.func108, Tryz.ntmps108
    go_wp2_with fail
    go_ret
    exact ⟨rfl, HB2.out⟩
  · have hr : 0 ≤ nn ∧ nn < vs.length := by
      have h : decide (0 ≤ nn ∧ nn < vs.length ∧ bt = 0) = true := hA2
      exact ⟨(of_decide_eq_true h).1, (of_decide_eq_true h).2.1⟩
    obtain ⟨k, rfl⟩ : ∃ k : Nat, nn = k := ⟨nn.toNat, by omega⟩
    have hkn : k < vs.length := by omega
    have hvn : vn = vs.length := hv.1
    have hvc : vs.length ≤ 9223372036854775807 := by have h1 := hv.2.1; have h2 := hv.2.2.1; unfold maxLen at h2; omega
    obtain ⟨a, rfl, hab, c0, c1⟩ := row_V hv k hkn
    have hty : mkS (argT vs ⟨5, (k : Int), bt⟩) = mkS [64] ++ vs[k].nm := by
      rw [← mkS_byt vs[k].nm, mkS_app]
      show mkS (64 :: (match vs[(k : Int).toNat]? with | some g => byt g.nm | none => [])) = _
      rw [Int.toNat_natCast, List.getElem?_eq_getElem hkn]
      rfl
    have hl := hs vs[k] (List.getElem_mem hkn)
    rw [StrE.eq, hty]
    obtain ⟨g, eg⟩ : ∃ g, vs[k] = g := ⟨_, rfl⟩
    rw [eg] at c0 c1 hl ⊢
    have c0 := (B2.cell (p := a.add (k * 2)) (by rw [add_block]; exact hab)).trans c0
    subst hvn
    obtain ⟨nm, sz⟩ := g
    obtain ⟨L, eL⟩ : ∃ L, vs.length = L := ⟨_, rfl⟩
    rw [eL] at hkn hvc B2 c0 ⊢
    simp only at c0 hl ⊢
    have HB2 := Lib.hid B2
    clear hty hA2 hs hv hr hb0 hb1 B2 eg eL c1
    go_enter Tryz.func108, Tryz.ntmps108
    go_wp2_with fail
    go_ret
    exact ⟨rfl, HB2.out⟩
  · rw [if_neg n1, if_neg n2, if_neg (by omega), if_neg n5] at hA2
    cases hA2
end Go.Proofs.YtmampoakdjjbiaaGreatDoor
