/- The document's lists of operands. -/
import Derived.Test.YtmampoakdjjbiaaGreatDoorSpV
namespace Go.Proofs.YtmampoakdjjbiaaGreatDoor
open Go.RowKit Go.Maps
set_option linter.unusedVariables false
set_option linter.unusedSimpArgs false

set_option maxRecDepth 100000 in
set_option maxHeartbeats 8000000 in
theorem rValues_any (m : LMod) (ap : Option Addr) (al ac : Nat) (rs : List Arg) (W : World) (hm : ModIn W.heap.size W m) (hk : LenOk (modD m)) (hA : ∀ a ∈ rs, argB (modD m) a = true) (hb0 : ∀ a ∈ rs, 0 ≤ a.bits ∧ a.bits < 18446744073709551616) (hl : rs.length ≤ 1048576) (hr : ListIn argC NoMem W.heap.size W ap al ac rs) :
    Calls Tryz.prog 109 #[.agg (modC m).toArray, .slice ap al ac] W (StrV (mkS (listT (rs.map (argT m.vs)))) W) := by
  obtain rfl : al = rs.length := hr.1
  have hc1 := hr.2.1
  have hc2 := hr.2.2.1
  unfold maxLen at hc2
  have hS1 : OneS W (modC m) (W.alloc (.cells (modC m).toArray 26)) := ⟨Box.new W rfl _ _, (Below.refl _ _).alloc (Nat.le_refl _) _⟩
  have hV : ∀ i (hi : i < rs.length) w, OneS W (modC m) w → Calls Tryz.prog 108 #[.agg (modC m).toArray, .agg #[.int .i64 rs[i].kind, .int .i64 rs[i].n, .int .u64 rs[i].bits]] w (StrV (mkS (argT m.vs rs[i])) w) := fun i hi w hS =>
    rValue_any m rs[i] w (lasts_Mod _ _ _ _ _ hS.2 hS.2.size hm) hk.vs (hA _ (List.getElem_mem hi)) (hb0 _ (List.getElem_mem hi)).1 (hb0 _ (List.getElem_mem hi)).2
  have hz : ∀ i (hi : i < rs.length), (mkS (argT m.vs rs[i])).size ≤ 1048600 := fun i hi => by
    rw [size_mkS]
    exact argT_len hk (hA _ (List.getElem_mem hi)) (hb0 _ (List.getElem_mem hi)).2
  have hst0 : ∀ s, s = mkS (listT ((rs.take 0).map (argT m.vs))) → ∀ h : 0 < rs.length, s ++ mkS (argT m.vs rs[0]) = mkS (listT ((rs.take (0 + 1)).map (argT m.vs))) := fun s hd h => by
    rw [hd, mkS_app, listStep0 (argT m.vs) rs h]; simp [listT, sepBy]
  have hst : ∀ s i, s = mkS (listT ((rs.take i).map (argT m.vs))) → ∀ h : i < rs.length, i ≠ 0 → s ++ ⟨#[44, 32]⟩ ++ mkS (argT m.vs rs[i]) = mkS (listT ((rs.take (i + 1)).map (argT m.vs))) := fun s i hd h h0 => by
    rw [hd, show (⟨#[44, 32]⟩ : ByteArray) = mkS [44, 32] from rfl, mkS_app, mkS_app, listStep (argT m.vs) rs i h h0]; simp
  have HV := Lib.hid (And.intro hV (And.intro hz (And.intro hst0 hst)))
  have HR := Lib.hid hr
  have HS := Lib.hid hS1
  clear hV hz hst0 hst hr hS1 hA hb0 hk hm
  obtain ⟨vp, vn, vc, vs, xp, xn, xc, xs, fp, fn, fc, fs⟩ := m
  obtain ⟨F, eF⟩ : ∃ F, argT vs = F := ⟨_, rfl⟩
  simp only [eF] at HV ⊢
  clear eF
  have HS : Hid (OneS W [.slice vp vn vc, .slice xp xn xc, .slice fp fn fc] (W.alloc (.cells #[.slice vp vn vc, .slice xp xn xc, .slice fp fn fc] 26))) := HS
  show Calls Tryz.prog 109 #[.agg #[.slice vp vn vc, .slice xp xn xc, .slice fp fn fc], .slice ap rs.length ac] W _
  go_enter Tryz.func109, Tryz.ntmps109
  go_wp2_with fail
  go_loopw [5, 6] (fun ts ti wr => ∃ (i : Nat) (s : ByteArray), i ≤ rs.length ∧ ti = .int .i64 i ∧ ts = .string s ∧ Hid (s = mkS (listT ((rs.take i).map F))) ∧ s.size ≤ i * 1048602 ∧ OneS W [.slice vp vn vc, .slice xp xn xc, .slice fp fn fc] wr) (fun _ ti _ => rs.length - (intOf ti).toNat)
  case atStart => exact ⟨0, ⟨#[]⟩, Nat.zero_le _, rfl, rfl, Lib.hid rfl, Nat.zero_le _, HS.out⟩
  case round =>
    obtain ⟨i, s, hi, rfl, rfl, hd, hsz, hS⟩ := hrel
    generalize wr = wo at *
    by_cases hlt : i < rs.length
    · obtain ⟨a, rfl, hab, k0, k1, k2⟩ := row_A HR.out i hlt
      have hz := HV.out.2.1 i hlt
      have hv := HV.out.1 i hlt
      have H0 : Hid (∀ h : i = 0, s ++ mkS (F rs[i]) = mkS (listT ((rs.take (i + 1)).map F))) := Lib.hid (fun h0 => by subst h0; exact HV.out.2.2.1 s hd.out hlt)
      have H1 := Lib.hid (HV.out.2.2.2 s i hd.out hlt)
      obtain ⟨v, ev⟩ : ∃ v, rs[i] = v := ⟨_, rfl⟩
      simp only [ev] at hz hv H0 H1 k0 k1 k2
      obtain ⟨t, et⟩ : ∃ t, mkS (F v) = t := ⟨_, rfl⟩
      simp only [et] at hz hv H0 H1
      obtain ⟨kd, nv, bv⟩ := v
      simp only at k0 k1 k2 hv
      have HK0 := Lib.hid (And.intro k0 (And.intro k1 (And.intro k2 hv)))
      have HS := Lib.hid hS
      have hpl : i ≤ 1048576 := by omega
      have hlim : ¬ 9223372036854775807 < s.size + t.size := by omega
      have hlim2 : ¬ 9223372036854775807 < s.size + 2 + t.size := by omega
      clear et ev hd hv k0 k1 k2 hS
      by_cases h0 : i = 0
      · have d0 : decide (0 < i) = false := by simp; omega
        have d0' : decide ((0 : Int) < (i : Int)) = false := by simp; omega
        have HI := Lib.hid h0
        clear h0
        go_upto_region 7 with fail
        have HSS : ∀ w, OneS W [.slice vp vn vc, .slice xp xn xc, .slice fp fn fc] w → (w.cell? ⟨W.heap.size, 0, none⟩ = some (.slice vp vn vc) ∧ w.cell? ⟨W.heap.size, 1, none⟩ = some (.slice xp xn xc) ∧ w.cell? ⟨W.heap.size, 2, none⟩ = some (.slice fp fn fc) ∧ w.cell? (a.add (i * 3)) = some (.int .i64 kd) ∧ w.cell? ⟨(a.add (i * 3)).block, (a.add (i * 3)).off + 1, none⟩ = some (.int .i64 nv) ∧ w.cell? ⟨(a.add (i * 3)).block, (a.add (i * 3)).off + 2, none⟩ = some (.int .u64 bv)) := fun w h => ⟨h.1.get 0 _ rfl, h.1.get 1 _ rfl, h.1.get 2 _ rfl, (h.2.cell (p := a.add (i * 3)) (by rw [add_block]; exact hab)).trans HK0.out.1, (h.2.cell (p := ⟨(a.add (i * 3)).block, (a.add (i * 3)).off + 1, none⟩) (by dsimp only; rw [add_block]; exact hab)).trans HK0.out.2.1, (h.2.cell (p := ⟨(a.add (i * 3)).block, (a.add (i * 3)).off + 2, none⟩) (by dsimp only; rw [add_block]; exact hab)).trans HK0.out.2.2.1⟩
        obtain ⟨y0_, y1_, y2_, y3_, y4_, y5_⟩ := HSS wo HS.out
        have kh : OneS W [.slice vp vn vc, .slice xp xn xc, .slice fp fn fc] wo := HS.out
        have cO : ∀ w, ((w.cell? ⟨W.heap.size, 0, none⟩ = some (.slice vp vn vc) ∧ w.cell? ⟨W.heap.size, 1, none⟩ = some (.slice xp xn xc) ∧ w.cell? ⟨W.heap.size, 2, none⟩ = some (.slice fp fn fc) ∧ w.cell? (a.add (i * 3)) = some (.int .i64 kd) ∧ w.cell? ⟨(a.add (i * 3)).block, (a.add (i * 3)).off + 1, none⟩ = some (.int .i64 nv) ∧ w.cell? ⟨(a.add (i * 3)).block, (a.add (i * 3)).off + 2, none⟩ = some (.int .u64 bv)) ∧ OneS W [.slice vp vn vc, .slice xp xn xc, .slice fp fn fc] w) → Calls Tryz.prog 108 #[.agg #[.slice vp vn vc, .slice xp xn xc, .slice fp fn fc], .agg #[.int .i64 kd, .int .i64 nv, .int .u64 bv]] w fun e w' => e = .returned (.string t) ∧ w'.cell? ⟨W.heap.size, 0, none⟩ = some (.slice vp vn vc) ∧ w'.cell? ⟨W.heap.size, 1, none⟩ = some (.slice xp xn xc) ∧ w'.cell? ⟨W.heap.size, 2, none⟩ = some (.slice fp fn fc) ∧ w'.cell? (a.add (i * 3)) = some (.int .i64 kd) ∧ w'.cell? ⟨(a.add (i * 3)).block, (a.add (i * 3)).off + 1, none⟩ = some (.int .i64 nv) ∧ w'.cell? ⟨(a.add (i * 3)).block, (a.add (i * 3)).off + 2, none⟩ = some (.int .u64 bv) ∧ OneS W [.slice vp vn vc, .slice xp xn xc, .slice fp fn fc] w' := by
          rintro w ⟨k, kh⟩
          refine (HK0.out.2.2.2 w kh).mono ?_
          rintro e w' ⟨he, hb⟩
          have h2 := kh.later hb
          obtain ⟨s0, s1, s2, s3, s4, s5⟩ := HSS w' h2
          exact ⟨he, s0, s1, s2, s3, s4, s5, h2⟩
        clear HSS
        go_region_held3 (fun w' => w'.cell? ⟨W.heap.size, 0, none⟩ = some (.slice vp vn vc) ∧ w'.cell? ⟨W.heap.size, 1, none⟩ = some (.slice xp xn xc) ∧ w'.cell? ⟨W.heap.size, 2, none⟩ = some (.slice fp fn fc) ∧ w'.cell? (a.add (i * 3)) = some (.int .i64 kd) ∧ w'.cell? ⟨(a.add (i * 3)).block, (a.add (i * 3)).off + 1, none⟩ = some (.int .i64 nv) ∧ w'.cell? ⟨(a.add (i * 3)).block, (a.add (i * 3)).off + 2, none⟩ = some (.int .u64 bv))
          (((try dsimp only); (repeat' apply And.intro) <;> (first | (with_reducible assumption) | (rw [World.cell?_drew]; with_reducible assumption) | (simp <;> omega))))
          (first
            | ((with_reducible refine' (cO _ ?pre).mono ?_)
               case pre => (refine ⟨⟨?_, ?_, ?_, ?_, ?_, ?_⟩, ?_⟩ <;> (first | (with_reducible assumption) | (rw [World.cell?_drew]; with_reducible assumption) | (with_reducible apply OneS.drew; with_reducible assumption) | (simp <;> omega) | omega))
               rintro e wscO ⟨rfl, cO_0, cO_1, cO_2, cO_3, cO_4, cO_5, sahcO⟩))
        all_goals
          have HS5 := Lib.hid sahcO
          go_wp2_with fail
          exact ⟨⟨i + 1, _, by omega, by go_num, rfl, Lib.hid (H0.out HI.out), by rw [ByteArray.size_append]; omega, HS5.out⟩, by simp [intOf]; omega⟩
      · have d0 : decide (0 < i) = true := by simp; omega
        have d0' : decide ((0 : Int) < (i : Int)) = true := by simp; omega
        have HI := Lib.hid h0
        clear h0
        go_upto_region 7 with fail
        have HSS : ∀ w, OneS W [.slice vp vn vc, .slice xp xn xc, .slice fp fn fc] w → (w.cell? ⟨W.heap.size, 0, none⟩ = some (.slice vp vn vc) ∧ w.cell? ⟨W.heap.size, 1, none⟩ = some (.slice xp xn xc) ∧ w.cell? ⟨W.heap.size, 2, none⟩ = some (.slice fp fn fc) ∧ w.cell? (a.add (i * 3)) = some (.int .i64 kd) ∧ w.cell? ⟨(a.add (i * 3)).block, (a.add (i * 3)).off + 1, none⟩ = some (.int .i64 nv) ∧ w.cell? ⟨(a.add (i * 3)).block, (a.add (i * 3)).off + 2, none⟩ = some (.int .u64 bv)) := fun w h => ⟨h.1.get 0 _ rfl, h.1.get 1 _ rfl, h.1.get 2 _ rfl, (h.2.cell (p := a.add (i * 3)) (by rw [add_block]; exact hab)).trans HK0.out.1, (h.2.cell (p := ⟨(a.add (i * 3)).block, (a.add (i * 3)).off + 1, none⟩) (by dsimp only; rw [add_block]; exact hab)).trans HK0.out.2.1, (h.2.cell (p := ⟨(a.add (i * 3)).block, (a.add (i * 3)).off + 2, none⟩) (by dsimp only; rw [add_block]; exact hab)).trans HK0.out.2.2.1⟩
        obtain ⟨y0_, y1_, y2_, y3_, y4_, y5_⟩ := HSS wo HS.out
        have kh : OneS W [.slice vp vn vc, .slice xp xn xc, .slice fp fn fc] wo := HS.out
        have cO : ∀ w, ((w.cell? ⟨W.heap.size, 0, none⟩ = some (.slice vp vn vc) ∧ w.cell? ⟨W.heap.size, 1, none⟩ = some (.slice xp xn xc) ∧ w.cell? ⟨W.heap.size, 2, none⟩ = some (.slice fp fn fc) ∧ w.cell? (a.add (i * 3)) = some (.int .i64 kd) ∧ w.cell? ⟨(a.add (i * 3)).block, (a.add (i * 3)).off + 1, none⟩ = some (.int .i64 nv) ∧ w.cell? ⟨(a.add (i * 3)).block, (a.add (i * 3)).off + 2, none⟩ = some (.int .u64 bv)) ∧ OneS W [.slice vp vn vc, .slice xp xn xc, .slice fp fn fc] w) → Calls Tryz.prog 108 #[.agg #[.slice vp vn vc, .slice xp xn xc, .slice fp fn fc], .agg #[.int .i64 kd, .int .i64 nv, .int .u64 bv]] w fun e w' => e = .returned (.string t) ∧ w'.cell? ⟨W.heap.size, 0, none⟩ = some (.slice vp vn vc) ∧ w'.cell? ⟨W.heap.size, 1, none⟩ = some (.slice xp xn xc) ∧ w'.cell? ⟨W.heap.size, 2, none⟩ = some (.slice fp fn fc) ∧ w'.cell? (a.add (i * 3)) = some (.int .i64 kd) ∧ w'.cell? ⟨(a.add (i * 3)).block, (a.add (i * 3)).off + 1, none⟩ = some (.int .i64 nv) ∧ w'.cell? ⟨(a.add (i * 3)).block, (a.add (i * 3)).off + 2, none⟩ = some (.int .u64 bv) ∧ OneS W [.slice vp vn vc, .slice xp xn xc, .slice fp fn fc] w' := by
          rintro w ⟨k, kh⟩
          refine (HK0.out.2.2.2 w kh).mono ?_
          rintro e w' ⟨he, hb⟩
          have h2 := kh.later hb
          obtain ⟨s0, s1, s2, s3, s4, s5⟩ := HSS w' h2
          exact ⟨he, s0, s1, s2, s3, s4, s5, h2⟩
        clear HSS
        go_region_held3 (fun w' => w'.cell? ⟨W.heap.size, 0, none⟩ = some (.slice vp vn vc) ∧ w'.cell? ⟨W.heap.size, 1, none⟩ = some (.slice xp xn xc) ∧ w'.cell? ⟨W.heap.size, 2, none⟩ = some (.slice fp fn fc) ∧ w'.cell? (a.add (i * 3)) = some (.int .i64 kd) ∧ w'.cell? ⟨(a.add (i * 3)).block, (a.add (i * 3)).off + 1, none⟩ = some (.int .i64 nv) ∧ w'.cell? ⟨(a.add (i * 3)).block, (a.add (i * 3)).off + 2, none⟩ = some (.int .u64 bv))
          (((try dsimp only); (repeat' apply And.intro) <;> (first | (with_reducible assumption) | (rw [World.cell?_drew]; with_reducible assumption) | (simp <;> omega))))
          (first
            | ((with_reducible refine' (cO _ ?pre).mono ?_)
               case pre => (refine ⟨⟨?_, ?_, ?_, ?_, ?_, ?_⟩, ?_⟩ <;> (first | (with_reducible assumption) | (rw [World.cell?_drew]; with_reducible assumption) | (with_reducible apply OneS.drew; with_reducible assumption) | (simp <;> omega) | omega))
               rintro e wscO ⟨rfl, cO_0, cO_1, cO_2, cO_3, cO_4, cO_5, sahcO⟩))
        all_goals
          have HS5 := Lib.hid sahcO
          go_wp2_with fail
          exact ⟨⟨i + 1, _, by omega, by go_num, rfl, Lib.hid (H1.out HI.out), by rw [ByteArray.size_append, ByteArray.size_append]; show s.size + 2 + t.size ≤ _; omega, HS5.out⟩, by simp [intOf]; omega⟩
    · obtain rfl : i = rs.length := by omega
      have HD := Lib.hid (show s = mkS (listT (rs.map F)) by rw [hd.out, List.take_length])
      have HS := Lib.hid hS
      clear hd hS
      go_wp2_with fail
      go_ret
      exact ⟨by rw [← HD.out]; rfl, HS.out.2⟩
end Go.Proofs.YtmampoakdjjbiaaGreatDoor
